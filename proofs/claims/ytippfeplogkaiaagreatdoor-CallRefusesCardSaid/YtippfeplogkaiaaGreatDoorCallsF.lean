/- CallsF: texts of layers below, joined (CallR CallS CallT CallU). -/
import Derived.Test.YtippfeplogkaiaaGreatDoorCallsE
namespace Go.Proofs.YtippfeplogkaiaaGreatDoor
open Go.RowKit ListMath PageMath GeoMath SegMath ClassMath HeapMath QueueMath ArenaMath CallMath
set_option linter.unusedVariables false
set_option maxRecDepth 100000
structure Only (P:SY) (t:Nat):Prop where
  t8:t<8
  oth: ∀u,u<8→u≠t→(P.H u).B= []
  no:P.N= []
theorem Only.all {P:SY} {t:Nat} (h:Only P t) {X:SG} (hX:X∈P.all):X∈(P.H t).B:=by
  rcases List.mem_append.1 hX with hX|hX
  · obtain ⟨u,hu,hX⟩:=List.mem_flatMap.1 hX
    by_cases e:u=t
    · rw [←e];exact hX
    · rw [h.oth u (List.mem_range.1 hu) e] at hX;cases hX
  · rw [h.no] at hX;cases hX
theorem Only.put {P:SY} {t:Nat} (h:Only P t) (H:HS) (A:St):Only (P.putH t H A) t:=
  ⟨h.t8,fun u hu hne=>by rw [putH_ne P H A hne];exact h.oth u hu hne,h.no⟩
structure Emp (P:SY) (t:Nat) (A:St):Prop where
  o:Only P t
  H:P.H t=h0
  eA:P.A=A
  eL:P.S.L= []
  gs:StackMath.GoodS P.S
  n:P.S.n≤1000
  hu: ∀i,P.hu i=0
structure Ask (F:FR) (t:Nat) (pc ps:Int) (tk:Nat):Prop where
  kd:F.kd=1
  t:F.t=t
  pc:F.pc=pc
  ps:F.ps=ps
  pl:PlB F
  bad: ¬badF F.pc F.ps
  tk:F.took=tk
  ad:F.addr=0
  er:F.err=0
theorem hugeE_none {hu:Nat→Nat} (h: ∀i,hu i=0) (x:Nat):hugeE hu x=none:=if_neg fun k=>k.2.2 (h _)
theorem usE_of {P:SY} {t:Nat} (o1:Only P t) (g:GoodH (P.H t)) (hh: ∀i,P.hu i=0) {X:SG} {o:OwR} {L:List Nat} {x:Nat} (hX:X∈(P.H t).B) (ho:o∈X.L) (hg:GoodP L o.P) (hb:IsBlk o.P.f o.P.s o.P.made x):usE P x=(o.P.s,0)∧findA P x=some o:=by
  have hf:=findH_blk g hX ho (hb.mono hg.made)
  have hfo:=(findH_some hf).2
  have hA:findA P x=some o:=by
    unfold findA
    cases hc:P.all.findSome? (fun X=>findO X x) with
    |none=>have:=List.findSome?_eq_none_iff.1 hc X (all_H o1.t8 hX);rw [hfo] at this;cases this
    | some o2=>
      obtain ⟨Y,hY,e⟩:=List.exists_of_findSome?_eq_some hc
      have:=pl_one g.pls (o1.all hY) hX ((findO_pl e).trans (findO_pl hfo).symm)
      subst this
      exact e.symm.trans hfo
  refine ⟨?_,hA⟩
  obtain ⟨i,hi,e⟩:=hb
  have hm:=hg.made
  have hix:=index_hit hg.may (show (i:Int)<(o.P.n:Int) by omega) e
  unfold usE
  rw [hugeE_none hh,hA]
  show usO o x=_
  unfold usO
  rw [hix.1,hix.2,if_pos ⟨rfl,hi⟩]
theorem fillok_of {P:SY} {t:Nat} (o1:Only P t) (g:GoodH (P.H t)) (hh: ∀i,P.hu i=0) {X:SG} {o:OwR} {L U:List Nat} {x:Nat} (hu:HU (P.H t) L U) (hx:x∈U) (hX:X∈(P.H t).B) (ho:o∈X.L) (hb:IsBlk o.P.f o.P.s o.P.made x):FillOk P L x∧HU (P.H t) (splice L x (MemMath.fill (usE P x).1 [])) U:=by
  have hg:=(hu.wh X hX o ho).1
  obtain ⟨e,_⟩:=usE_of o1 g hh hX ho hg hb
  have hfit:x+o.P.s≤L.length:=hb.fits hg.made hg.fit
  have hlf:(MemMath.fill o.P.s []).length=o.P.s:=MemMath.length_fill _ _
  have hl9:x+(MemMath.fill o.P.s []).length≤L.length:=by rw [hlf];exact hfit
  have hgd:=MemMath.getD_splice hl9
  rw [hlf] at hgd
  rw [e]
  have hw:=hu.write g hX ho hx hb (L':=splice L x (MemMath.fill o.P.s [])) (MemMath.length_splice' hl9) fun i hi=>by rw [hgd,if_neg (by omega)]
  refine ⟨⟨by rw [e];exact hfit,fun Y hY u hu2=> ?_⟩,hw⟩
  rw [e]
  exact (hw.wh Y (o1.all hY) u hu2).1
structure PgOut (A:St) (t:Nat) (pc ps:Int) (tk:Nat) (P:SY) (L:List Nat) (F:FR):Prop where
  o:Only P t
  eA:P.A=(reserve A 1).2.2
  eL:P.S.L= []
  gs:StackMath.GoodS P.S
  n:P.S.n≤1000
  hu: ∀i,P.hu i=0
  res:(reserve A 1).2.1=0
  er:F.err=0
  tk:F.took=tk
  ad:F.addr=fromS (reserve A 1).1.toNat 1
  us:HU (P.H t) L [F.addr]
  ex: ∃X∈(P.H t).B,∃o∈X.L,o.P.s=szOf pc ps.toNat∧IsBlk o.P.f o.P.s o.P.made F.addr
  one:(P.H t).B.length=1
structure NoOut (A:St) (t:Nat) (tk:Nat) (P:SY) (F:FR):Prop where
  o:Only P t
  eA:P.A=(reserve A 1).2.2
  res:(reserve A 1).2.1≠0
  er:F.err=(reserve A 1).2.1
  tk:F.took=tk
  ad:F.addr=0
section
variable {w0 w w' w1 w2:World} {C:SgC w0} {K:HpC w0 C} {s p q g f m k cap:Nat} {hb:Nat→Nat} {own own':Nat→Prop} {O:Nat→Nat→Prop} {B:Nat→List SB} {R:List SB} {P P':SY} {L L':List Nat} {S S' T:Nat→Prop} {F F':FR} {st st':ByteArray} {a:Option Addr} {t:Nat} {A:St} {pc ps:Int} {tk:Nat}
def Over {w0:World} (C:SgC w0) (K:HpC w0 C) (s p q:Nat) (hb:Nat→Nat) (S:Nat→Prop) (f m:Nat) (w:World) (n:Nat) (Z:SY→List Nat→FR→Prop) (w':World):Prop:=
  ∃P L F,L.length=n∧Z P L F∧After C K s p q hb S f m w P L F b_done w'
theorem ends_over {Z:SY→List Nat→FR→Prop} (n:NowF C K s p q hb S' f m a k cap w P L F b_done w') (h1: ∀b,S b→S' b) (h2: ∀b,S' b→S b∨w.heap.size≤b) (hz:Z P L F):Ends f (Over C K s p q hb S f m w L.length Z) 0 w':=
  (step_over n.fr).mono fun e w1 z=>⟨z.1,by rw [z.2];exact ⟨P,L,F,rfl,hz,S',a,k,cap,n,h1,h2⟩⟩
theorem ends_step {Q:World→Prop} {g j:Nat} (n:NowF C K s p q hb S' f m a k cap w P L F st w') (hst:(st.toList== [100,111,110,101])=false) (ht:F.took≤1000000)
    (hg: ∀w1,StepsAt w1 m→(Instr.lookup 133 (.map (some m)) (.string st) false).run Tryz.prog w1= .ok (.func (.func g) #[] #[]) w1) (he:Enters Tryz.prog g)
    (CG: ∀w1,NowF C K s p q hb S' f m a k cap w P L (tookF F) st w1→w'.heap.size≤w1.heap.size→Calls Tryz.prog g #[.pointer (some ⟨f,0,none⟩)] w1 fun e w2=> ∃st',e= .returned (.string st')∧ ∃S2 a2 k2 cap2 P2 L2 F2,NowF C K s p q hb S2 f m a2 k2 cap2 w P2 L2 F2 st w2∧ ∀w3,NowF C K s p q hb S2 f m a2 k2 cap2 w P2 L2 F2 st' w3→Ends f Q j w3):Ends f Q (j+1) w':=by
  refine .inr ?_
  refine (step_any (Q:=fun st' w2=> ∃S2 a2 k2 cap2 P2 L2 F2,NowF C K s p q hb S2 f m a2 k2 cap2 w P2 L2 F2 st w2∧ ∀w3,NowF C K s p q hb S2 f m a2 k2 cap2 w P2 L2 F2 st' w3→Ends f Q j w3) n hst (by omega) hg CG (fun w args=>he args w) fun st' w2 ⟨S2,a2,k2,cap2,P2,L2,F2,n2,_⟩=>⟨⟨_,n2.fr.c_st⟩,n2.fr.fz 10⟩).mono ?_
  rintro e w1 ⟨h1,st',w2,rfl,S2,a2,k2,cap2,P2,L2,F2,n2,h2⟩
  exact ⟨h1,h2 _ (n2.put 10 (.string st') F2 st' rfl rfl rfl)⟩
end
end Go.Proofs.YtippfeplogkaiaaGreatDoor
namespace Go.Proofs.YtippfeplogkaiaaGreatDoor
open Go.RowKit ListMath PageMath GeoMath SegMath ClassMath HeapMath QueueMath ArenaMath CallMath
set_option linter.unusedVariables false
set_option maxRecDepth 100000
theorem low_new {a wd:Nat} (h1:1≤wd) (h2:wd≤15):MarkMath.low (newSG a).K wd=some 1:=by
  have hg:=(GoodG.new a).mark
  refine MarkMath.low_of h1 ⟨fun j hj=> ?_,fun b hb h=> ?_⟩
  · show (newSG a).K.getD (1+j) true=false
    cases hk:(newSG a).K.getD (1+j) true with
    |false=>rfl
    | true=>
      rcases (hg (1+j) (by omega)).1 hk with e|⟨o,ho,_⟩
      · omega
      · cases ho
  · have hb0:b=0:=by omega
    subst hb0
    have h3:(newSG a).K.getD (0+0) true=false:=h 0 (by omega)
    have h4:=(hg 0 (by omega)).2 (.inl rfl)
    rw [Nat.add_zero,h4] at h3;cases h3
theorem room_one {id a wd:Nat} {Q:Nat→QR} (h1:1≤wd) (h2:wd≤15):roomH ⟨[ownedSG id a],Q⟩ wd=some (ownedSG id a,1):=by
  unfold roomH
  have e:MarkMath.low (ownedSG id a).K wd=some 1:=low_new (a:=a) h1 h2
  simp [e]
theorem grow_h0 {A:St} {id:Nat}:growH h0 A id=if (reserve A 1).2.1≠0 then (h0,(reserve A 1).2.1,(reserve A 1).2.2) else (⟨[ownedSG id (reserve A 1).1.toNat],h0.Q⟩,0,(reserve A 1).2.2):=rfl
theorem wd_ok {pc ps:Int} (h: ¬badF pc ps):1≤wdOf pc ps.toNat∧wdOf pc ps.toNat≤15:=by
  have:=planned (c:=pc) (sl:=ps.toNat) (by unfold badF at h⊢;omega)
  exact ⟨this.1,this.2.1⟩
section
variable {w0 w w' w1 w2:World} {C:SgC w0} {K:HpC w0 C} {s p q g f m k cap:Nat} {hb:Nat→Nat} {own own':Nat→Prop} {O:Nat→Nat→Prop} {B:Nat→List SB} {R:List SB} {P P':SY} {L L':List Nat} {S S' T:Nat→Prop} {F F':FR} {st st':ByteArray} {a:Option Addr} {t:Nat} {A:St} {pc ps:Int} {tk:Nat}
theorem Ask.took (h:Ask F t pc ps tk):Ask (tookF F) t pc ps (tk+1):=⟨h.kd,h.t,h.pc,h.ps,⟨h.pl.pc,h.pl.ps,h.pl.pg,h.pl.pu⟩,h.bad,by show F.took+1=_;rw [h.tk],h.ad,h.er⟩
def MZ (A:St) (t:Nat) (pc ps:Int) (tk:Nat) (P:SY) (L:List Nat) (F:FR):Prop:=PgOut A t pc ps tk P L F∨NoOut A t tk P F
theorem madeL_len (P:SY) (L:List Nat) (F:FR) (x:Nat) (er:Int) (h:er=0→F.kd≠3→F.z=true→FillOk P L x):(madeL P L F x er).length=L.length:=by
  unfold madeL
  split
  · rename_i hc
    exact MemMath.length_splice' (by rw [MemMath.length_fill];exact (h hc.1 hc.2.1 hc.2.2).fit)
  · rfl
set_option maxHeartbeats 1000000 in
theorem ends_grow (n:NowF C K s p q hb S' f m a k cap w P L F b_grow w') (h1: ∀b,S b→S' b) (h2: ∀b,S' b→S b∨w.heap.size≤b) (e:Emp P t A) (q1:Ask F t pc ps tk) (htk:tk≤1000) (hr:A.r≤1000000000000) (hent:Enters Tryz.prog 122):
    Ends f (Over C K s p q hb S f m w L.length (MZ A t pc ps (tk+1))) 1 w':=by
  refine ends_step n nd_grow (by rw [q1.tk];omega) (fun w1 h=>at_grow h) hent fun w1 n1 hw1=> ?_
  have q2:=q1.took
  obtain ⟨F1,hF1⟩: ∃F1,tookF F=F1:=⟨_,rfl⟩
  rw [hF1] at n1 q2
  have hH:P.H F1.t=h0:=by rw [q2.t];exact e.H
  have hr':P.A.r≤1000000000000:=by rw [e.eA];exact hr
  have hlen:=n1.os.pgs.2
  have hG:growH (P.H F1.t) P.A (F1.t+1)=if (reserve A 1).2.1≠0 then (h0,(reserve A 1).2.1,(reserve A 1).2.2) else (⟨[ownedSG (F1.t+1) (reserve A 1).1.toNat],h0.Q⟩,0,(reserve A 1).2.2):=by rw [hH,e.eA,grow_h0]
  by_cases he:(reserve A 1).2.1=0
  · rw [if_neg (fun h=>h he)] at hG
    obtain ⟨j,hj⟩: ∃j,(reserve A 1).1.toNat=j:=⟨_,rfl⟩
    rw [hj] at hG
    have hgH:(groP P F1).H F1.t=⟨[ownedSG (F1.t+1) j],h0.Q⟩:=by rw [groP_H,hG]
    obtain ⟨d1,d2⟩:=wd_ok q2.bad
    have hroom:roomH ((groP P F1).H F1.t) (wdOf F1.pc F1.ps.toNat)=some (ownedSG (F1.t+1) j,1):=by rw [hgH];exact room_one d1 d2
    have hRN:=reserve_n A (by rw [←e.eA];exact n1.os.goodA) 1
    have hjS:j+1≤A.S:=by
      rcases hRN with ⟨a2,k2,f1,f2,f3,f4,_⟩|⟨f1,_⟩
      · rw [f3] at hj
        have:(a2:Int).toNat=j:=hj
        omega
      · exact absurd he f1
    have hsz:(j+1)*16384≤L.length:=by have:=n1.os.size;rw [e.eA] at this;omega
    have oG:Only (groP P F1) t:=by have:=e.o.put (growH (P.H F1.t) P.A (F1.t+1)).1 (growH (P.H F1.t) P.A (F1.t+1)).2.2;rw [←q2.t] at this⊢;exact this
    have gG:GoodH ((groP P F1).H F1.t):=by
      rw [groP_H]
      have:=good_grow (H:=h0) (A:=A) (id:=F1.t+1) GoodH.zero (by rw [←e.eA];exact n1.os.goodA) fun X hX=>by cases hX
      rw [hH,e.eA];exact this
    have uG:HU ((groP P F1).H F1.t) L []:=by
      rw [groP_H,hH]
      exact (HU.zero L).grow (Agree.refl L [])
    have hXin:ownedSG (F1.t+1) j∈((groP P F1).H F1.t).B:=by rw [hgH];exact List.mem_singleton.2 rfl
    obtain ⟨_,hlow⟩:=roomH_some hroom
    have nb: ¬badF F1.pc (F1.ps.toNat:Int):=by have:=q2.bad;unfold badF at this⊢;omega
    have PG: ∀op pp L1,L1.length=L.length→Agree L L1 (frY F1 (ownedSG (F1.t+1) j) 1)→(∀Y∈(frP (groP P F1) F1 (ownedSG (F1.t+1) j) op pp 1).all,∀o∈Y.L,GoodP L1 o.P)→
        Only (frP (groP P F1) F1 (ownedSG (F1.t+1) j) op pp 1) t∧GoodH ((frP (groP P F1) F1 (ownedSG (F1.t+1) j) op pp 1).H t)∧HU ((frP (groP P F1) F1 (ownedSG (F1.t+1) j) op pp 1).H t) L1 [fromS j 1]∧(∃Z∈((frP (groP P F1) F1 (ownedSG (F1.t+1) j) op pp 1).H t).B,∃o∈Z.L,o.P.s=szOf pc ps.toNat∧IsBlk o.P.f o.P.s o.P.made (fromS j 1))∧((frP (groP P F1) F1 (ownedSG (F1.t+1) j) op pp 1).H t).B.length=1:=by
      intro op pp L1 hl ha hg
      have hHt:(frP (groP P F1) F1 (ownedSG (F1.t+1) j) op pp 1).H t=freshH ((groP P F1).H F1.t) (ownedSG (F1.t+1) j) op pp F1.pc F1.ps.toNat 1:=by rw [←q2.t];exact putH_same ..
      have oF:Only (frP (groP P F1) F1 (ownedSG (F1.t+1) j) op pp 1) t:=by have:=oG.put (freshH ((groP P F1).H F1.t) (ownedSG (F1.t+1) j) op pp F1.pc F1.ps.toNat 1) (groP P F1).A;rw [←q2.t] at this⊢;exact this
      obtain ⟨_,k2,Z,k3,o,k4,k5,k6,k7⟩:=uG.fresh' gG (op:=op) (pp:=pp) hXin nb hlow (fun o ho=>by cases ho) ha (fun X' hX' o ho=>hg X' (all_H oF.t8 (by rw [hHt];exact hX')) o ho) hsz hlen
      refine ⟨oF,by rw [hHt];exact good_fresh gG hXin nb hlow (fun o ho=>by cases ho),by rw [hHt];exact k2,⟨Z,by rw [hHt];exact k3,o,k4,by rw [k6,q2.pc,q2.ps],k7⟩, ?_⟩
      rw [hHt,hgH]
      show (List.map _ [ownedSG (F1.t+1) j]).length=1
      simp
    have hhu: ∀op pp i,(frP (groP P F1) F1 (ownedSG (F1.t+1) j) op pp 1).hu i=0:=fun op pp i=>e.hu i
    have FO: ∀op pp L1,L1.length=L.length→Agree L L1 (frY F1 (ownedSG (F1.t+1) j) 1)→(∀Y∈(frP (groP P F1) F1 (ownedSG (F1.t+1) j) op pp 1).all,∀o∈Y.L,GoodP L1 o.P)→FillOk (frP (groP P F1) F1 (ownedSG (F1.t+1) j) op pp 1) L1 (fromS j 1)∧HU ((frP (groP P F1) F1 (ownedSG (F1.t+1) j) op pp 1).H t) (splice L1 (fromS j 1) (MemMath.fill (usE (frP (groP P F1) F1 (ownedSG (F1.t+1) j) op pp 1) (fromS j 1)).1 [])) [fromS j 1]:=by
      intro op pp L1 hl ha hg
      obtain ⟨o1,o2,o3,⟨Z,o4,o,o5,o6,o7⟩,_⟩:=PG op pp L1 hl ha hg
      exact fillok_of o1 o2 (hhu op pp) o3 (List.mem_singleton.2 rfl) o4 o5 o7
    refine (grow_yes n1 q2.pl q2.bad hr' (by rw [hG]) hroom fun op pp L1 _ _ hl ha _ _ hg=>(FO op pp L1 hl ha hg).1).mono ?_
    rintro er w2 ⟨op,pp,L1,rfl,_,_,hl,ha,hgd,n2⟩
    have hs:madeS F1 0=b_done:=by unfold madeS;rw [if_neg (fun h=>h rfl),if_neg (by rw [q2.kd];decide)]
    obtain ⟨p1,p2,p3,p4,p5⟩:=PG op pp L1 hl ha hgd
    obtain ⟨f1,f2⟩:=FO op pp L1 hl ha hgd
    have eF:madeF F1 (fromS (ownedSG (F1.t+1) j).pl 1) 0={F1 with addr:=fromS j 1}:=if_neg fun h=>h rfl
    refine ⟨_,rfl,_,_,_,_,_,_,_,n2,fun w3 n3=> ?_⟩
    rw [hs] at n3
    have hlm:(madeL (frP (groP P F1) F1 (ownedSG (F1.t+1) j) op pp 1) L1 F1 (fromS (ownedSG (F1.t+1) j).pl 1) 0).length=L1.length:=madeL_len _ L1 F1 _ 0 fun _ _ _=>f1
    have:=ends_over (S:=S) (Z:=MZ A t pc ps (tk+1)) n3 h1 h2 (.inl ⟨p1,by show (growH (P.H F1.t) P.A (F1.t+1)).2.2=_;rw [hG],e.eL,e.gs,e.n,hhu op pp,he,by rw [eF];exact q2.er,by rw [eF];exact q2.tk,by rw [eF,hj], ?_,by rw [eF];exact p4,p5⟩)
    · rw [hlm,hl] at this;exact this
    · rw [eF]
      show HU _ _ [fromS j 1]
      unfold madeL
      split
      · exact f2
      · exact p3
  · rw [if_pos he] at hG
    refine (grow_no n1 hr' (by rw [hG];exact he)).mono ?_
    rintro er w2 ⟨rfl,n2⟩
    refine ⟨_,rfl,_,_,_,_,_,_,_,n2,fun w3 n3=> ?_⟩
    refine ends_over (S:=S) (Z:=MZ A t pc ps (tk+1)) n3 h1 h2 (.inr ⟨?_,by show (growH (P.H F1.t) P.A (F1.t+1)).2.2=_;rw [hG],he,by show (growH (P.H F1.t) P.A (F1.t+1)).2.1=_;rw [hG],q2.tk,q2.ad⟩)
    have:=e.o.put (growH (P.H F1.t) P.A (F1.t+1)).1 (growH (P.H F1.t) P.A (F1.t+1)).2.2
    rw [←q2.t] at this⊢;exact this
end
end Go.Proofs.YtippfeplogkaiaaGreatDoor
namespace Go.Proofs.YtippfeplogkaiaaGreatDoor
open Go.RowKit ListMath PageMath GeoMath SegMath ClassMath HeapMath QueueMath ArenaMath CallMath
set_option linter.unusedVariables false
set_option maxRecDepth 100000
theorem en_grow:Enters Tryz.prog 122:=enters_of Tryz.func122 (by kernel_rfl) rfl
theorem en_look:Enters Tryz.prog 118:=enters_of Tryz.func118 (by kernel_rfl) rfl
theorem en_fresh:Enters Tryz.prog 117:=enters_of Tryz.func117 (by kernel_rfl) rfl
theorem en_local:Enters Tryz.prog 115:=enters_of Tryz.func115 (by kernel_rfl) rfl
theorem en_huge:Enters Tryz.prog 114:=enters_of Tryz.func114 (by kernel_rfl) rfl
theorem en_refuse:Enters Tryz.prog 113:=enters_of Tryz.func113 (by kernel_rfl) rfl
theorem en_find:Enters Tryz.prog 123:=enters_of Tryz.func123 (by kernel_rfl) rfl
theorem en_fit:Enters Tryz.prog 126:=enters_of Tryz.func126 (by kernel_rfl) rfl
theorem en_rest:Enters Tryz.prog 128:=enters_of Tryz.func128 (by kernel_rfl) rfl
section
variable {w0 w w' w1 w2:World} {C:SgC w0} {K:HpC w0 C} {s p q g f m k cap:Nat} {hb:Nat→Nat} {own own':Nat→Prop} {O:Nat→Nat→Prop} {B:Nat→List SB} {R:List SB} {P P':SY} {L L':List Nat} {S S' T:Nat→Prop} {F F':FR} {st st':ByteArray} {a:Option Addr} {t:Nat} {A:St} {pc ps:Int} {tk:Nat}
theorem Emp.asked (h:Emp P t A) (hn:P.S.n≤999):Emp (askS' P) t A:=by
  refine ⟨⟨h.o.t8,h.o.oth,h.o.no⟩,h.H,h.eA,h.eL,⟨h.gs.nd,h.gs.lt,h.gs.ch,h.gs.bb,Nat.le_trans h.gs.tn (Nat.le_succ _)⟩, ?_,h.hu⟩
  show P.S.n+1≤1000;omega
theorem ends_look (n:NowF C K s p q hb S' f m a k cap w P L F b_look w') (h1: ∀b,S b→S' b) (h2: ∀b,S' b→S b∨w.heap.size≤b) (e:Emp P t A) (hn:P.S.n≤999) (q1:Ask F t pc ps tk) (htk:tk≤999) (hr:A.r≤1000000000000):
    Ends f (Over C K s p q hb S f m w L.length (MZ A t pc ps (tk+2))) 2 w':=by
  refine ends_step n nd_look (by rw [q1.tk];omega) (fun w1 h=>at_look h) en_look fun w1 n1 hw1=> ?_
  have q2:=q1.took
  refine (look_now n1 e.gs (show P.S.n≤999999999 by omega)).mono ?_
  rintro er w2 ⟨rfl,n2⟩
  refine ⟨_,rfl,_,_,_,_,_,_,_,n2,fun w3 n3=> ?_⟩
  have hs:lookS P (tookF F)=b_grow:=by unfold lookS;rw [e.eL,if_neg (fun h=>h rfl),if_pos (.inl q2.kd)]
  rw [hs] at n3
  exact ends_grow n3 h1 h2 (e.asked hn) (F:=lookF P (tookF F)) ⟨q2.kd,q2.t,q2.pc,q2.ps,⟨q2.pl.pc,q2.pl.ps,q2.pl.pg,q2.pl.pu⟩,q2.bad,q2.tk,q2.ad,q2.er⟩ (by omega) hr en_grow
theorem ends_fresh (n:NowF C K s p q hb S' f m a k cap w P L F b_fresh w') (h1: ∀b,S b→S' b) (h2: ∀b,S' b→S b∨w.heap.size≤b) (e:Emp P t A) (hn:P.S.n≤999) (q1:Ask F t pc ps tk) (htk:tk≤998) (hr:A.r≤1000000000000):
    Ends f (Over C K s p q hb S f m w L.length (MZ A t pc ps (tk+3))) 3 w':=by
  refine ends_step n nd_fresh (by rw [q1.tk];omega) (fun w1 h=>at_fresh h) en_fresh fun w1 n1 hw1=> ?_
  have q2:=q1.took
  refine (freshS_no n1 q2.pl (.inr (by rw [q2.t,e.H];rfl))).mono ?_
  rintro er w2 ⟨rfl,n2⟩
  exact ⟨_,rfl,_,_,_,_,_,_,_,n2,fun w3 n3=>ends_look n3 h1 h2 e hn q2 (by omega) hr⟩
theorem local_h0 {c:Int} (h1:0≤c) (h2:c<12):localH h0 c=(h0,0,4, []):=by
  unfold localH
  rw [if_neg (by omega)]
  rfl
theorem pages_h0 (cs:List Int):pagesH h0 cs= []:=by
  unfold pagesH pagesOf
  refine List.flatMap_eq_nil_iff.2 fun c _=> ?_
  split<;>rfl
theorem Emp.loc (h:Emp P t A) (q1:Ask F t pc ps tk) (h1:0≤F.pc) (h2:F.pc<12):Emp (locP P F) t A:=by
  have e1:locP P F=P.putH t h0 P.A:=by unfold locP;rw [q1.t,h.H,local_h0 h1 h2]
  rw [e1]
  exact ⟨h.o.put _ _,putH_same ..,h.eA,h.eL,h.gs,h.n,h.hu⟩
theorem ends_local (n:NowF C K s p q hb S' f m a k cap w P L F b_local w') (hw:w.heap.size≤w'.heap.size) (h1: ∀b,S b→S' b) (h2: ∀b,S' b→S b∨w.heap.size≤b) (e:Emp P t A) (hn:P.S.n≤999) (q1:Ask F t pc ps tk) (hp1:0≤F.pc) (hp2:F.pc<12) (htk:tk≤997) (hr:A.r≤1000000000000):
    Ends f (Over C K s p q hb S f m w L.length (MZ A t pc ps (tk+4))) 4 w':=by
  refine ends_step n nd_local (by rw [q1.tk];omega) (fun w1 h=>at_local h) en_local fun w1 n1 hw1=> ?_
  have q2:=q1.took
  have hlh:localH (P.H (tookF F).t) (tookF F).pc=(h0,0,4, []):=by rw [q2.t,e.H];exact local_h0 hp1 hp2
  refine (local_now n1 (Nat.le_trans hw hw1) q2.pl.pc fun L1 _ _ h3=>by rw [hlh] at h3;cases h3).mono ?_
  rintro er w2 ⟨L1,hl,_,_,hk⟩
  obtain ⟨rfl,S3,a3,k3,cap3,n3,i1,i2⟩:=hk (by rw [hlh];decide)
  refine ⟨_,rfl,_,_,_,_,_,_,_,n3,fun w3 n4=> ?_⟩
  have hpg:pagesH (localH (P.H (tookF F).t) (tookF F).pc).1 [(tookF F).pc]= []:=by rw [hlh];exact pages_h0 _
  rw [hpg] at n4
  have hs:gathS (locP P (tookF F)) (pagesF (tookF F) [])=b_fresh:=by unfold gathS;rw [if_neg (fun h=>h rfl),if_pos (.inl q2.kd)]
  rw [hs] at n4
  have:=ends_fresh (S:=S) (tk:=tk+1) n4 (fun b hb=>i1 b (h1 b hb)) (fun b hb=>(i2 b hb).elim (h2 b) .inr) (e.loc q2 hp1 hp2) hn (F:=pagesF (tookF F) []) ⟨q2.kd,q2.t,q2.pc,q2.ps,⟨q2.pl.pc,q2.pl.ps,q2.pl.pg,q2.pl.pu⟩,q2.bad,q2.tk,q2.ad,q2.er⟩ (by omega) hr
  rw [hl] at this
  exact this
theorem ends_refuse (n:NowF C K s p q hb S' f m a k cap w P L F b_refuse w') (h1: ∀b,S b→S' b) (h2: ∀b,S' b→S b∨w.heap.size≤b) (htk:F.took≤1000):
    Ends f (Over C K s p q hb S f m w L.length fun P' _ F'=>P'=P∧F'={tookF F with err:=2}) 1 w':=by
  refine ends_step n nd_refuse (by omega) (fun w1 h=>at_refuse h) en_refuse fun w1 n1 hw1=> ?_
  refine (refuse_fr n1.fr).mono ?_
  rintro er w2 ⟨rfl,h4,u4⟩
  exact ⟨_,rfl,_,_,_,_,_,_,_,n1.fput h4 u4,fun w3 n3=>ends_over n3 h1 h2 ⟨rfl,rfl⟩⟩
structure HgOut (P0:SY) (pg:Int) (tk:Nat) (P:SY) (F:FR):Prop where
  P:P=(resE P0 pg).2.2
  er:F.err=(resE P0 pg).2.1
  ad:F.addr=(resE P0 pg).1
  tk:F.took=tk
theorem huge_nothing (e:Only P t) {n:Int} {L:List Nat} (hB:(P.H t).B= []) (hg:ArenaMath.Good P.A) (hsz:P.A.S*16384=L.length) (h0:(resE P n).2.1=0):FillOk (resE P n).2.2 L (resE P n).1:=by
  have hall: ∀Y∈(resE P n).2.2.all,False:=fun Y hY=>by
    have hY':Y∈P.all:=by
      unfold resE at hY
      split at hY
      · exact hY
      · exact hY
    have:=e.all hY'
    rw [hB] at this;cases this
  refine ⟨?_,fun Y hY=>(hall Y hY).elim⟩
  rcases reserve_n P.A hg n with ⟨j,k,rfl,e2,e3,e4,_,_⟩|⟨hne,_,_⟩
  · have e9:resE P (k:Int)=(j*16384,0,{P with A:=P.A.give j k,hu:=fun i=>if i=j then k else P.hu i}):=by
      unfold resE
      rw [e3,if_neg (by simp)]
      simp
    have hS:=hg.S2
    have hh:hugeE (fun i=>if i=j then k else P.hu i) (j*16384)=some j:=by
      unfold hugeE
      have e5:j*16384/16384=j:=by omega
      rw [e5,if_pos ⟨by omega,by omega,by show (if j=j then k else P.hu j)≠0;rw [if_pos rfl];omega⟩]
    rw [e9]
    unfold usE
    rw [hh]
    simp only [if_pos]
    omega
  · unfold resE at h0
    rw [if_pos hne] at h0
    exact absurd h0 hne
theorem ends_huge (n:NowF C K s p q hb S' f m a k cap w P L F b_huge w') (h1: ∀b,S b→S' b) (h2: ∀b,S' b→S b∨w.heap.size≤b) (e:Only P t) (hB:(P.H t).B= []) (hk:F.kd=1) (ha:F.addr=0) (he:F.err=0) (htk:F.took≤1000) (hr:P.A.r≤1000000000000):
    Ends f (Over C K s p q hb S f m w L.length fun P' _ F'=>HgOut P F.pg (F.took+1) P' F') 1 w':=by
  refine ends_step n nd_huge (by omega) (fun w1 h=>at_huge h) en_huge fun w1 n1 hw1=> ?_
  have ok:(resE P (tookF F).pg).2.1=0→FillOk (resE P (tookF F).pg).2.2 L (resE P (tookF F).pg).1:=fun h=>huge_nothing e hB n1.os.goodA n1.os.size h
  refine (huge_now n1 hr fun h3 _ _=>ok h3).mono ?_
  rintro er w2 ⟨rfl,n2⟩
  refine ⟨_,rfl,_,_,_,_,_,_,_,n2,fun w3 n3=> ?_⟩
  have hs:madeS (tookF F) (resE P (tookF F).pg).2.1=b_done:=by
    unfold madeS
    split
    · rfl
    · rw [if_neg (show ¬(tookF F).kd=3 by show ¬F.kd=3;rw [hk];decide)]
  rw [hs] at n3
  have hl:=madeL_len (resE P (tookF F).pg).2.2 L (tookF F) (resE P (tookF F).pg).1 (resE P (tookF F).pg).2.1 fun h3 _ _=>ok h3
  have:=ends_over (S:=S) (Z:=fun P' _ F'=>HgOut P F.pg (F.took+1) P' F') n3 h1 h2 ⟨rfl, ?_, ?_, ?_⟩
  · rw [hl] at this;exact this
  · unfold madeF
    split
    · rfl
    · rename_i h;exact he.trans (Decidable.not_not.1 h).symm
  · unfold madeF
    split
    · rename_i h
      show F.addr=_
      rw [ha]
      have:(reserve P.A (tookF F).pg).2.1≠0:=fun h5=>h (by unfold resE;rw [if_neg (fun h=>h h5)])
      show 0=(resE P (tookF F).pg).1
      unfold resE
      rw [if_pos this]
    · rfl
  · exact (madeF_same (tookF F) _ _).2.2.2.2.2.2.2.1
end
end Go.Proofs.YtippfeplogkaiaaGreatDoor
namespace Go.Proofs.YtippfeplogkaiaaGreatDoor
open Go.RowKit ListMath PageMath GeoMath SegMath ClassMath HeapMath QueueMath ArenaMath CallMath
set_option linter.unusedVariables false
set_option maxRecDepth 100000
def ZZ (A:St) (t:Nat) (P0:SY) (n al:Nat) (P:SY) (L:List Nat) (F:FR):Prop:=
  ((forN n (max al 1)).2≠0∧P=P0∧F.err=2∧F.addr=0∧F.took=1)∨
  ((forN n (max al 1)).2=0∧0<(forN n (max al 1)).1.sg∧HgOut P0 ((forN n (max al 1)).1.sg:Int) 1 P F)∨
  ((forN n (max al 1)).2=0∧(forN n (max al 1)).1.sg=0∧((0≤(forN n (max al 1)).1.c∧MZ A t (forN n (max al 1)).1.c ((forN n (max al 1)).1.sl:Int) 4 P L F)∨((forN n (max al 1)).1.c= -1∧MZ A t (-1) ((forN n (max al 1)).1.sl:Int) 3 P L F)))
theorem size_le (c:Nat) (h:c<12):sizeAt c≤1024∧slicesAt c≤4:=⟨(show ∀c,c<12→sizeAt c≤1024 from below12 (by decide)) c h,(size_class c h).2.2.2.2.2⟩
section
variable {w0 w w' w1 w2:World} {C:SgC w0} {K:HpC w0 C} {s p q g f m k cap:Nat} {hb:Nat→Nat} {own own':Nat→Prop} {O:Nat→Nat→Prop} {B:Nat→List SB} {R:List SB} {P P':SY} {L L':List Nat} {S S' T:Nat→Prop} {F F':FR} {st st':ByteArray} {a:Option Addr} {t:Nat} {A:St}
theorem ends_z {f:Nat} {j:Nat} {Z Z':SY→List Nat→FR→Prop} {l:Nat} (h: ∀P L F,Z P L F→Z' P L F): ∀{j:Nat} {w':World},Ends f (Over C K s p q hb S f m w l Z) j w'→Ends f (Over C K s p q hb S f m w l Z') j w'
  |0,_,e=>e.mono fun e w1 k=>⟨k.1,by obtain ⟨P,L,F,h1,h2,h3⟩:=k.2;exact ⟨P,L,F,h1,h P L F h2,h3⟩⟩
  |j+1,_,e=>e.elim (fun e=> .inl (e.mono fun e w1 k=>⟨k.1,by obtain ⟨P,L,F,h1,h2,h3⟩:=k.2;exact ⟨P,L,F,h1,h P L F h2,h3⟩⟩)) fun e=> .inr (e.mono fun e w1 k=>⟨k.1,ends_z (j:=j) h k.2⟩)
theorem mall_ends {ad n al:Nat} {zz fo:Bool} (i:NowF C K s p q hb S' f m a k cap w P L (begF (fr0 t 1 ad n al zz fo)) (begS (fr0 t 1 ad n al zz fo)) w') (hw:w.heap.size≤w'.heap.size) (h1: ∀b,S b→S' b) (h2: ∀b,S' b→S b∨w.heap.size≤b) (e:Emp P t A) (hn:P.S.n≤900) (hr:A.r≤1000000000000):
    ∃j,j≤4∧Ends f (Over C K s p q hb S f m w L.length (ZZ A t P n al)) j w':=by
  obtain ⟨fr,hfr⟩: ∃x,forN n (max al 1)=x:=⟨_,rfl⟩
  have eF:begF (fr0 t 1 ad n al zz fo)=if fr.2≠0 then fr0 t 1 ad n al zz fo else planF (fr0 t 1 ad n al zz fo) fr.1.c (fr.1.sl:Int) (fr.1.sg:Int) fr.1.us:=by
    unfold begF;rw [←hfr];rfl
  have eS:begS (fr0 t 1 ad n al zz fo)=if fr.2≠0 then b_refuse else askS fr.1.c (fr.1.sg:Int):=by
    unfold begS;rw [←hfr];rfl
  by_cases hg:isAl (max al 1)=true∧n≤1048576
  · have hz:fr.2=0:=by rw [←hfr];exact forN_ok hg.1 hg.2
    rw [if_neg (fun h=>h hz)] at eF eS
    rw [eF,eS] at i
    rcases Nat.lt_or_ge 15360 n with h3|h3
    · have e3:=forN_great hg.1 h3 hg.2
      rw [hfr] at e3
      have hup:1≤ClassMath.up n 16384:=up_pos (by decide) (by omega)
      have hs:askS fr.1.c (fr.1.sg:Int)=b_huge:=by rw [e3];unfold askS;rw [if_pos (show (0:Int)<((ClassMath.up n 16384:Nat):Int) by omega)]
      rw [hs] at i
      have hB:(P.H t).B= []:=by rw [e.H];rfl
      refine ⟨1,by omega,ends_z (j:=1) (fun P' L' F' z=> ?_) (ends_huge i h1 h2 e.o hB rfl rfl rfl (show (0:Nat)≤1000 by omega) (by rw [e.eA];exact hr))⟩
      refine .inr (.inl ⟨by rw [hfr];exact hz,by rw [hfr,e3];exact hup, ?_⟩)
      rw [hfr];exact z
    · rcases Nat.lt_or_ge 1024 n with h4|h4
      · have e3:=forN_mid hg.1 h4 h3
        rw [hfr] at e3
        have hs:askS fr.1.c (fr.1.sg:Int)=b_fresh:=by rw [e3];unfold askS;rw [if_neg (show ¬(0:Int)<((0:Nat):Int) by omega),if_neg (fun h=>h rfl)]
        rw [hs,e3] at i
        have hup1:1≤ClassMath.up n 1024:=up_pos (by decide) (by omega)
        have hup2:ClassMath.up n 1024≤15:=by unfold ClassMath.up;omega
        have nb: ¬badF (-1) ((ClassMath.up n 1024:Nat):Int):=by unfold badF;omega
        refine ⟨3,by omega,ends_z (j:=3) (fun P' L' F' z=> ?_) (ends_fresh (A:=A) (t:=t) (pc:= -1) (ps:=((ClassMath.up n 1024:Nat):Int)) (tk:=0) i h1 h2 e (by omega) ⟨rfl,rfl,rfl,rfl,⟨⟨by show (-9223372036854775808:Int)≤ -1;decide,by show (-1:Int)≤_;decide⟩,⟨by show (-9223372036854775808:Int)≤((ClassMath.up n 1024:Nat):Int);omega,by show ((ClassMath.up n 1024:Nat):Int)≤_;omega⟩,⟨by show (-9223372036854775808:Int)≤((0:Nat):Int);decide,by show ((0:Nat):Int)≤_;decide⟩,by show ClassMath.up n 1024*1024≤18446744073709551615;omega⟩,nb,rfl,rfl,rfl⟩ (by omega) hr)⟩
        refine .inr (.inr ⟨by rw [hfr];exact hz,by rw [hfr,e3], .inr ⟨by rw [hfr,e3], ?_⟩⟩)
        rw [hfr,e3];exact z
      · obtain ⟨c,e3,hc,_⟩:=forN_small hg.1 h4
        rw [hfr] at e3
        have hs:askS fr.1.c (fr.1.sg:Int)=b_local:=by rw [e3];unfold askS;rw [if_neg (show ¬(0:Int)<((0:Nat):Int) by omega),if_pos (show ((c:Nat):Int)≠ -1 by omega)]
        rw [hs,e3] at i
        obtain ⟨s1,s2⟩:=size_le c hc
        have nb: ¬badF (c:Int) ((slicesAt c:Nat):Int):=by unfold badF;omega
        refine ⟨4,by omega,ends_z (j:=4) (fun P' L' F' z=> ?_) (ends_local (A:=A) (t:=t) (pc:=(c:Int)) (ps:=((slicesAt c:Nat):Int)) (tk:=0) i hw h1 h2 e (by omega) ⟨rfl,rfl,rfl,rfl,⟨⟨by show (-9223372036854775808:Int)≤(c:Int);omega,by show (c:Int)≤_;omega⟩,⟨by show (-9223372036854775808:Int)≤((slicesAt c:Nat):Int);omega,by show ((slicesAt c:Nat):Int)≤_;omega⟩,⟨by show (-9223372036854775808:Int)≤((0:Nat):Int);decide,by show ((0:Nat):Int)≤_;decide⟩,by show sizeAt c≤18446744073709551615;omega⟩,nb,rfl,rfl,rfl⟩ (show (0:Int)≤(c:Int) by omega) (show (c:Int)<12 by omega) (by omega) hr)⟩
        refine .inr (.inr ⟨by rw [hfr];exact hz,by rw [hfr,e3], .inl ⟨by rw [hfr,e3];show (0:Int)≤(c:Int);omega, ?_⟩⟩)
        rw [hfr,e3];exact z
  · have e3:=forN_bad hg
    rw [hfr] at e3
    have hz:fr.2≠0:=by rw [e3];decide
    rw [if_pos hz] at eF eS
    rw [eF,eS] at i
    refine ⟨1,by omega,ends_z (j:=1) (fun P' L' F' z=> ?_) (ends_refuse i h1 h2 (show (0:Nat)≤1000 by omega))⟩
    obtain ⟨z1,z2⟩:=z
    exact .inl ⟨by rw [hfr];exact hz,z1,by rw [z2],by rw [z2];rfl,by rw [z2];rfl⟩
end
end Go.Proofs.YtippfeplogkaiaaGreatDoor
