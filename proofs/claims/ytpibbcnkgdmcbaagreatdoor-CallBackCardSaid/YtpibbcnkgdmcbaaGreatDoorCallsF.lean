/- CallsF: texts of layers below, joined (CallR CallS CallT CallU). -/
import Derived.Test.YtpibbcnkgdmcbaaGreatDoorCallsE
set_option linter.unusedVariables false
set_option maxRecDepth 100000
set_option maxHeartbeats 1000000
namespace Go.Proofs.YtpibbcnkgdmcbaaGreatDoor
open Go.RowKit aC aF aG aI au aD aB aA bf
structure Only (P:SY) (t:Nat):Prop where
 t8:t<8
 oth: ∀u,u<8→u≠t→(P.H u).B= []
 no:P.N= []
theorem Only.all {P:SY} {t:Nat} (h:Only P t) {X:SG} (hX:X∈P.all):X∈(P.H t).B:=by
 rcases List.mem_append.1 hX with hX|hX
 · obtain ⟨u,hu,hX⟩:=List.mem_flatMap.1 hX
   by_cases e:u=t
   · rw [←e];exact hX
   · rw [h.oth u (List.mem_range.1 hu) e] at hX;cases hX
 · rw [h.no] at hX;cases hX
theorem Only.put {P:SY} {t:Nat} (h:Only P t) (H:HS) (A:St):Only (P.oo t H A) t:=
 ⟨h.t8,fun u hu hne=>by rw [wB P H A hne];exact h.oth u hu hne,h.no⟩
structure Ny (P:SY) (t:Nat) (A:St):Prop where
 o:Only P t
 H:P.H t=h0
 eA:P.A=A
 eL:P.S.L= []
 gs:bP.GoodS P.S
 n:P.S.n≤1000
 hu: ∀i,P.hu i=0
structure Ask (F:FR) (t:Nat) (pc ps:Int) (tk:Nat):Prop where
 kd:F.kd=1
 t:F.t=t
 pc:F.pc=pc
 ps:F.ps=ps
 pl:Z_ F
 bad: ¬eX F.pc F.ps
 tk:F.took=tk
 ad:F.addr=0
 er:F.err=0
theorem ny {hu:Nat→Nat} (h: ∀i,hu i=0) (x:Nat):fI hu x=none:=if_neg fun k=>k.2.2 (h _)
theorem F7 {P:SY} {t:Nat} (o1:Only P t) (g:aO (P.H t)) (hh: ∀i,P.hu i=0) {X:SG} {o:bY} {L:List Nat} {x:Nat} (hX:X∈(P.H t).B) (ho:o∈X.L) (hg:aJ L o.P) (hb:bO o.P.f o.P.s o.P.made x):tK P x=(o.P.s,0)∧sK P x=some o:=by
 have hf:=uO g hX ho (hb.mono hg.made);have hfo:=(qP hf).2;have hA:sK P x=some o:=by
  unfold sK;cases hc:P.all.findSome? (fun X=>bJ X x) with
  |none=>have:=List.findSome?_eq_none_iff.1 hc X (Km o1.t8 hX);rw [hfo] at this;cases this
  |some o2=>
   obtain ⟨Y,hY,e⟩:=List.exists_of_findSome?_eq_some hc;have:=iI g.jK (o1.all hY) hX ((kI e).trans (kI hfo).symm);subst this;exact e.symm.trans hfo
 refine ⟨?_,hA⟩;obtain ⟨i,hi,e⟩:=hb;have hm:=hg.made;have hix:=index_hit hg.may (show (i:Int)<(o.P.n:Int) by omega) e;unfold tK;rw [ny hh,hA];show Si o x=_;unfold Si;rw [hix.1,hix.2,if_pos ⟨rfl,hi⟩]
theorem MF {P:SY} {t:Nat} (o1:Only P t) (g:aO (P.H t)) (hh: ∀i,P.hu i=0) {X:SG} {o:bY} {L U:List Nat} {x:Nat} (hu:HU (P.H t) L U) (hx:x∈U) (hX:X∈(P.H t).B) (ho:o∈X.L) (hb:bO o.P.f o.P.s o.P.made x):nM P L x∧HU (P.H t) (splice L x (ay.fill (tK P x).1 [])) U:=by
 have hg:=(hu.wh X hX o ho).1;obtain ⟨e,_⟩:=F7 o1 g hh hX ho hg hb;have hfit:x+o.P.s≤L.length:=hb.fits hg.made hg.fit;have hlf:(ay.fill o.P.s []).length=o.P.s:=ay.bH _ _;have hl9:x+(ay.fill o.P.s []).length≤L.length:=by rw [hlf];exact hfit
 have hgd:=ay.fC hl9;rw [hlf] at hgd;rw [e];have hw:=hu.write g hX ho hx hb (L':=splice L x (ay.fill o.P.s [])) (ay.aT hl9) fun i hi=>by rw [hgd,if_neg (by omega)]
 refine ⟨⟨by rw [e];exact hfit,fun Y hY u hu2=> ?_⟩,hw⟩;rw [e];exact (hw.wh Y (o1.all hY) u hu2).1
structure VX (A:St) (t:Nat) (pc ps:Int) (tk:Nat) (P:SY) (L:List Nat) (F:FR):Prop where
 o:Only P t
 eA:P.A=(reserve A 1).2.2
 eL:P.S.L= []
 gs:bP.GoodS P.S
 n:P.S.n≤1000
 hu: ∀i,P.hu i=0
 res:(reserve A 1).2.1=0
 er:F.err=0
 tk:F.took=tk
 ad:F.addr=aL (reserve A 1).1.toNat 1
 us:HU (P.H t) L [F.addr]
 ex: ∃X∈(P.H t).B,∃o∈X.L,o.P.s=bQ pc ps.toNat∧bO o.P.f o.P.s o.P.made F.addr
 one:(P.H t).B.length=1
 nw: ∃op pp,(P.H t).B= [gV (aY (t+1) (reserve A 1).1.toNat) op pp pc ps.toNat 1]
structure aac (A:St) (t:Nat) (tk:Nat) (P:SY) (F:FR):Prop where
 o:Only P t
 eA:P.A=(reserve A 1).2.2
 res:(reserve A 1).2.1≠0
 er:F.err=(reserve A 1).2.1
 tk:F.took=tk
 ad:F.addr=0
section
variable {w0 w w' w1 w2:World} {C:fH w0} {K:kW w0 C} {s p q g f m k cap:Nat} {hb:Nat→Nat} {own own':Nat→Prop} {O:Nat→Nat→Prop} {B:Nat→List SB} {R:List SB} {P P':SY} {L L':List Nat} {S S' T:Nat→Prop} {F F':FR} {st st':ByteArray} {a:Option Addr} {t:Nat} {A:St} {pc ps:Int} {tk:Nat}
def Over {w0:World} (C:fH w0) (K:kW w0 C) (s p q:Nat) (hb:Nat→Nat) (S:Nat→Prop) (f m:Nat) (w:World) (n:Nat) (Z:SY→List Nat→FR→Prop) (w':World):Prop:=
 ∃P L F,L.length=n∧Z P L F∧After C K s p q hb S f m w P L F cK w'
theorem gu {Z:SY→List Nat→FR→Prop} (n:aQ C K s p q hb S' f m a k cap w P L F cK w') (h1: ∀b,S b→S' b) (h2: ∀b,S' b→S b∨w.heap.size≤b) (hz:Z P L F):Ends f (Over C K s p q hb S f m w L.length Z) 0 w':=
 (KT n.fr).mono fun e w1 z=>⟨z.1,by rw [z.2];exact ⟨P,L,F,rfl,hz,S',a,k,cap,n,h1,h2⟩⟩
theorem fu {Q:World→Prop} {g j:Nat} (n:aQ C K s p q hb S' f m a k cap w P L F st w') (hst:(st.toList== [100,111,110,101])=false) (ht:F.took≤1000000)
 (hg: ∀w1,dh w1 m→(Instr.lookup 73 (.map (some m)) (.string st) false).run Tryz.prog w1= .ok (.func (.func g) #[] #[]) w1) (he:Enters Tryz.prog g)
 (CG: ∀w1,aQ C K s p q hb S' f m a k cap w P L (cB F) st w1→w'.heap.size≤w1.heap.size→Calls Tryz.prog g #[.pointer (some ⟨f,0,none⟩)] w1 fun e w2=> ∃st',e= .returned (.string st')∧ ∃S2 a2 k2 cap2 P2 L2 F2,aQ C K s p q hb S2 f m a2 k2 cap2 w P2 L2 F2 st w2∧ ∀w3,aQ C K s p q hb S2 f m a2 k2 cap2 w P2 L2 F2 st' w3→Ends f Q j w3):Ends f Q (j+1) w':=by
 refine .inr ?_;refine (Ox (Q:=fun st' w2=> ∃S2 a2 k2 cap2 P2 L2 F2,aQ C K s p q hb S2 f m a2 k2 cap2 w P2 L2 F2 st w2∧ ∀w3,aQ C K s p q hb S2 f m a2 k2 cap2 w P2 L2 F2 st' w3→Ends f Q j w3) n hst (by omega) hg CG (fun w args=>he args w) fun st' w2 ⟨S2,a2,k2,cap2,P2,L2,F2,n2,_⟩=>⟨⟨_,n2.fr.I4⟩,n2.fr.fz 10⟩).mono ?_;rintro e w1 ⟨h1,st',w2,rfl,S2,a2,k2,cap2,P2,L2,F2,n2,h2⟩;exact ⟨h1,h2 _ (n2.put 10 (.string st') F2 st' rfl rfl rfl)⟩
end
end Go.Proofs.YtpibbcnkgdmcbaaGreatDoor
namespace Go.Proofs.YtpibbcnkgdmcbaaGreatDoor
open Go.RowKit aC aF aG aI au aD aB aA bf
theorem Ua {a wd:Nat} (h1:1≤wd) (h2:wd≤15):aj.low (iY a).K wd=some 1:=by
 have hg:=(bX.new a).mark;refine aj.He h1 ⟨fun j hj=> ?_,fun b hb h=> ?_⟩
 · show (iY a).K.getD (1+j) true=false
   cases hk:(iY a).K.getD (1+j) true with
   |false=>rfl
   |true=>
    rcases (hg (1+j) (by omega)).1 hk with e|⟨o,ho,_⟩
    · omega
    · cases ho
 · have hb0:b=0:=by omega
   subst hb0;have h3:(iY a).K.getD (0+0) true=false:=h 0 (by omega);have h4:=(hg 0 (by omega)).2 (.inl rfl);rw [Nat.add_zero,h4] at h3;cases h3
theorem OM {id a wd:Nat} {Q:Nat→QR} (h1:1≤wd) (h2:wd≤15):iX ⟨[aY id a],Q⟩ wd=some (aY id a,1):=by
 unfold iX;have e:aj.low (aY id a).K wd=some 1:=Ua (a:=a) h1 h2;simp [e]
theorem UA {A:St} {id:Nat}:cZ h0 A id=if (reserve A 1).2.1≠0 then (h0,(reserve A 1).2.1,(reserve A 1).2.2) else (⟨[aY id (reserve A 1).1.toNat],h0.Q⟩,0,(reserve A 1).2.2):=rfl
theorem Yy {pc ps:Int} (h: ¬eX pc ps):1≤dZ pc ps.toNat∧dZ pc ps.toNat≤15:=by
 have:=planned (c:=pc) (sl:=ps.toNat) (by unfold eX at h⊢;omega);exact ⟨this.1,this.2.1⟩
section
variable {w0 w w' w1 w2:World} {C:fH w0} {K:kW w0 C} {s p q g f m k cap:Nat} {hb:Nat→Nat} {own own':Nat→Prop} {O:Nat→Nat→Prop} {B:Nat→List SB} {R:List SB} {P P':SY} {L L':List Nat} {S S' T:Nat→Prop} {F F':FR} {st st':ByteArray} {a:Option Addr} {t:Nat} {A:St} {pc ps:Int} {tk:Nat}
theorem Ask.took (h:Ask F t pc ps tk):Ask (cB F) t pc ps (tk+1):=⟨h.kd,h.t,h.pc,h.ps,⟨h.pl.pc,h.pl.ps,h.pl.pg,h.pl.pu⟩,h.bad,by show F.took+1=_;rw [h.tk],h.ad,h.er⟩
def MZ (A:St) (t:Nat) (pc ps:Int) (tk:Nat) (P:SY) (L:List Nat) (F:FR):Prop:=VX A t pc ps tk P L F∨aac A t tk P F
theorem Al (P:SY) (L:List Nat) (F:FR) (x:Nat) (er:Int) (h:er=0→F.kd≠3→F.z=true→nM P L x):(nQ P L F x er).length=L.length:=by
 unfold nQ;split
 · rename_i hc
   exact ay.aT (by rw [ay.bH];exact (h hc.1 hc.2.1 hc.2.2).fit)
 · rfl
theorem MN (n:aQ C K s p q hb S' f m a k cap w P L F qW w') (h1: ∀b,S b→S' b) (h2: ∀b,S' b→S b∨w.heap.size≤b) (e:Ny P t A) (q1:Ask F t pc ps tk) (htk:tk≤1000) (hr:A.r≤1000000000000) (hent:Enters Tryz.prog 48):
 Ends f (Over C K s p q hb S f m w L.length (MZ A t pc ps (tk+1))) 1 w':=by
 refine fu n T9 (by rw [q1.tk];omega) (fun w1 h=>Vf h) hent fun w1 n1 hw1=> ?_;have q2:=q1.took;obtain ⟨F1,hF1⟩: ∃F1,cB F=F1:=⟨_,rfl⟩;rw [hF1] at n1 q2;have hH:P.H F1.t=h0:=by rw [q2.t];exact e.H
 have hr':P.A.r≤1000000000000:=by rw [e.eA];exact hr
 have hlen:=n1.os.FV.2;have hG:cZ (P.H F1.t) P.A (F1.t+1)=if (reserve A 1).2.1≠0 then (h0,(reserve A 1).2.1,(reserve A 1).2.2) else (⟨[aY (F1.t+1) (reserve A 1).1.toNat],h0.Q⟩,0,(reserve A 1).2.2):=by rw [hH,e.eA,UA]
 by_cases he:(reserve A 1).2.1=0
 · rw [if_neg (fun h=>h he)] at hG
   obtain ⟨j,hj⟩: ∃j,(reserve A 1).1.toNat=j:=⟨_,rfl⟩;rw [hj] at hG;have Ux:(iA P F1).H F1.t=⟨[aY (F1.t+1) j],h0.Q⟩:=by rw [Ic,hG]
   obtain ⟨d1,d2⟩:=Yy q2.bad;have hroom:iX ((iA P F1).H F1.t) (dZ F1.pc F1.ps.toNat)=some (aY (F1.t+1) j,1):=by rw [Ux];exact OM d1 d2
   have hRN:=lS A (by rw [←e.eA];exact n1.os.vG) 1;have hjS:j+1≤A.S:=by
    rcases hRN with ⟨a2,k2,f1,f2,f3,f4,_⟩|⟨f1,_⟩
    · rw [f3] at hj
      have:(a2:Int).toNat=j:=hj;omega
    · exact absurd he f1
   have hsz:(j+1)*16384≤L.length:=by have:=n1.os.size;rw [e.eA] at this;omega
   have oG:Only (iA P F1) t:=by have:=e.o.put (cZ (P.H F1.t) P.A (F1.t+1)).1 (cZ (P.H F1.t) P.A (F1.t+1)).2.2;rw [←q2.t] at this⊢;exact this
   have gG:aO ((iA P F1).H F1.t):=by
    rw [Ic];have:=Av (H:=h0) (A:=A) (id:=F1.t+1) aO.zero (by rw [←e.eA];exact n1.os.vG) fun X hX=>by cases hX
    rw [hH,e.eA];exact this
   have uG:HU ((iA P F1).H F1.t) L []:=by
    rw [Ic,hH];exact (HU.zero L).grow (Agree.refl L [])
   have Qv:aY (F1.t+1) j∈((iA P F1).H F1.t).B:=by rw [Ux];exact List.mem_singleton.2 rfl
   obtain ⟨_,hlow⟩:=qD hroom;have nb: ¬eX F1.pc (F1.ps.toNat:Int):=by have:=q2.bad;unfold eX at this⊢;omega
   have PG: ∀op pp L1,L1.length=L.length→Agree L L1 (Yn F1 (aY (F1.t+1) j) 1)→(∀Y∈(zD (iA P F1) F1 (aY (F1.t+1) j) op pp 1).all,∀o∈Y.L,aJ L1 o.P)→
    Only (zD (iA P F1) F1 (aY (F1.t+1) j) op pp 1) t∧aO ((zD (iA P F1) F1 (aY (F1.t+1) j) op pp 1).H t)∧HU ((zD (iA P F1) F1 (aY (F1.t+1) j) op pp 1).H t) L1 [aL j 1]∧(∃Z∈((zD (iA P F1) F1 (aY (F1.t+1) j) op pp 1).H t).B,∃o∈Z.L,o.P.s=bQ pc ps.toNat∧bO o.P.f o.P.s o.P.made (aL j 1))∧((zD (iA P F1) F1 (aY (F1.t+1) j) op pp 1).H t).B.length=1∧((zD (iA P F1) F1 (aY (F1.t+1) j) op pp 1).H t).B= [gV (aY (F1.t+1) j) op pp F1.pc F1.ps.toNat 1]:=by
    intro op pp L1 hl ha hg;have Yk:(zD (iA P F1) F1 (aY (F1.t+1) j) op pp 1).H t=jM ((iA P F1).H F1.t) (aY (F1.t+1) j) op pp F1.pc F1.ps.toNat 1:=by rw [←q2.t];exact jo ..
    have oF:Only (zD (iA P F1) F1 (aY (F1.t+1) j) op pp 1) t:=by have:=oG.put (jM ((iA P F1).H F1.t) (aY (F1.t+1) j) op pp F1.pc F1.ps.toNat 1) (iA P F1).A;rw [←q2.t] at this⊢;exact this
    obtain ⟨_,k2,Z,k3,o,k4,k5,k6,k7⟩:=uG.fresh' gG (op:=op) (pp:=pp) Qv nb hlow (fun o ho=>by cases ho) ha (fun X' hX' o ho=>hg X' (Km oF.t8 (by rw [Yk];exact hX')) o ho) hsz hlen;refine ⟨oF,by rw [Yk];exact yN gG Qv nb hlow (fun o ho=>by cases ho),by rw [Yk];exact k2,⟨Z,by rw [Yk];exact k3,o,k4,by rw [k6,q2.pc,q2.ps],k7⟩, ?_, ?_⟩
    · rw [Yk,Ux]
      show (List.map _ [aY (F1.t+1) j]).length=1;simp
    · rw [Yk,Ux]
      show [if (aY (F1.t+1) j).pl=(gV (aY (F1.t+1) j) op pp F1.pc F1.ps.toNat 1).pl then gV (aY (F1.t+1) j) op pp F1.pc F1.ps.toNat 1 else _]=_;rw [if_pos (show (aY (F1.t+1) j).pl=(gV (aY (F1.t+1) j) op pp F1.pc F1.ps.toNat 1).pl from rfl)]
   have hhu: ∀op pp i,(zD (iA P F1) F1 (aY (F1.t+1) j) op pp 1).hu i=0:=fun op pp i=>e.hu i;have FO: ∀op pp L1,L1.length=L.length→Agree L L1 (Yn F1 (aY (F1.t+1) j) 1)→(∀Y∈(zD (iA P F1) F1 (aY (F1.t+1) j) op pp 1).all,∀o∈Y.L,aJ L1 o.P)→nM (zD (iA P F1) F1 (aY (F1.t+1) j) op pp 1) L1 (aL j 1)∧HU ((zD (iA P F1) F1 (aY (F1.t+1) j) op pp 1).H t) (splice L1 (aL j 1) (ay.fill (tK (zD (iA P F1) F1 (aY (F1.t+1) j) op pp 1) (aL j 1)).1 [])) [aL j 1]:=by
    intro op pp L1 hl ha hg;obtain ⟨o1,o2,o3,⟨Z,o4,o,o5,o6,o7⟩,_⟩:=PG op pp L1 hl ha hg;exact MF o1 o2 (hhu op pp) o3 (List.mem_singleton.2 rfl) o4 o5 o7
   refine (Qx n1 q2.pl q2.bad hr' (by rw [hG]) hroom fun op pp L1 _ _ hl ha _ _ hg=>(FO op pp L1 hl ha hg).1).mono ?_;rintro er w2 ⟨op,pp,L1,rfl,_,_,hl,ha,hgd,n2⟩;have hs:lY F1 0=cK:=by unfold lY;rw [if_neg (fun h=>h rfl),if_neg (by rw [q2.kd];decide)]
   obtain ⟨p1,p2,p3,p4,p5,p6⟩:=PG op pp L1 hl ha hgd;obtain ⟨f1,f2⟩:=FO op pp L1 hl ha hgd;have eF:iZ F1 (aL (aY (F1.t+1) j).pl 1) 0={F1 with addr:=aL j 1}:=if_neg fun h=>h rfl;refine ⟨_,rfl,_,_,_,_,_,_,_,n2,fun w3 n3=> ?_⟩;rw [hs] at n3;have hlm:(nQ (zD (iA P F1) F1 (aY (F1.t+1) j) op pp 1) L1 F1 (aL (aY (F1.t+1) j).pl 1) 0).length=L1.length:=Al _ L1 F1 _ 0 fun _ _ _=>f1;have:=gu (S:=S) (Z:=MZ A t pc ps (tk+1)) n3 h1 h2 (.inl ⟨p1,by show (cZ (P.H F1.t) P.A (F1.t+1)).2.2=_;rw [hG],e.eL,e.gs,e.n,hhu op pp,he,by rw [eF];exact q2.er,by rw [eF];exact q2.tk,by rw [eF,hj], ?_,by rw [eF];exact p4,p5,op,pp,by rw [p6,q2.t,q2.pc,q2.ps,hj]⟩)
   · rw [hlm,hl] at this;exact this
   · rw [eF]
     show HU _ _ [aL j 1];unfold nQ;split
     · exact f2
     · exact p3
 · rw [if_pos he] at hG
   refine (Uz n1 hr' (by rw [hG];exact he)).mono ?_;rintro er w2 ⟨rfl,n2⟩;refine ⟨_,rfl,_,_,_,_,_,_,_,n2,fun w3 n3=> ?_⟩;refine gu (S:=S) (Z:=MZ A t pc ps (tk+1)) n3 h1 h2 (.inr ⟨?_,by show (cZ (P.H F1.t) P.A (F1.t+1)).2.2=_;rw [hG],he,by show (cZ (P.H F1.t) P.A (F1.t+1)).2.1=_;rw [hG],q2.tk,q2.ad⟩);have:=e.o.put (cZ (P.H F1.t) P.A (F1.t+1)).1 (cZ (P.H F1.t) P.A (F1.t+1)).2.2;rw [←q2.t] at this⊢;exact this
end
end Go.Proofs.YtpibbcnkgdmcbaaGreatDoor
namespace Go.Proofs.YtpibbcnkgdmcbaaGreatDoor
open Go.RowKit aC aF aG aI au aD aB aA bf
theorem UH:Enters Tryz.prog 48:=enters_of Tryz.func48 (by kernel_rfl) rfl
theorem Kc:Enters Tryz.prog 44:=enters_of Tryz.func44 (by kernel_rfl) rfl
theorem QK:Enters Tryz.prog 43:=enters_of Tryz.func43 (by kernel_rfl) rfl
theorem QJ:Enters Tryz.prog 41:=enters_of Tryz.func41 (by kernel_rfl) rfl
theorem UG:Enters Tryz.prog 40:=enters_of Tryz.func40 (by kernel_rfl) rfl
theorem MR:Enters Tryz.prog 39:=enters_of Tryz.func39 (by kernel_rfl) rfl
theorem Cr:Enters Tryz.prog 49:=enters_of Tryz.func49 (by kernel_rfl) rfl
theorem Xv:Enters Tryz.prog 52:=enters_of Tryz.func52 (by kernel_rfl) rfl
theorem UF:Enters Tryz.prog 54:=enters_of Tryz.func54 (by kernel_rfl) rfl
section
variable {w0 w w' w1 w2:World} {C:fH w0} {K:kW w0 C} {s p q g f m k cap:Nat} {hb:Nat→Nat} {own own':Nat→Prop} {O:Nat→Nat→Prop} {B:Nat→List SB} {R:List SB} {P P':SY} {L L':List Nat} {S S' T:Nat→Prop} {F F':FR} {st st':ByteArray} {a:Option Addr} {t:Nat} {A:St} {pc ps:Int} {tk:Nat}
theorem Ny.asked (h:Ny P t A) (hn:P.S.n≤999):Ny (zm P) t A:=by
 refine ⟨⟨h.o.t8,h.o.oth,h.o.no⟩,h.H,h.eA,h.eL,⟨h.gs.nd,h.gs.lt,h.gs.ch,h.gs.bb,Nat.le_trans h.gs.tn (Nat.le_succ _)⟩, ?_,h.hu⟩;show P.S.n+1≤1000;omega
theorem MJ (n:aQ C K s p q hb S' f m a k cap w P L F je w') (h1: ∀b,S b→S' b) (h2: ∀b,S' b→S b∨w.heap.size≤b) (e:Ny P t A) (hn:P.S.n≤999) (q1:Ask F t pc ps tk) (htk:tk≤999) (hr:A.r≤1000000000000):
 Ends f (Over C K s p q hb S f m w L.length (MZ A t pc ps (tk+2))) 2 w':=by
 refine fu n wJ (by rw [q1.tk];omega) (fun w1 h=>Kk h) Kc fun w1 n1 hw1=> ?_;have q2:=q1.took;refine (Eo n1 e.gs (show P.S.n≤999999999 by omega)).mono ?_;rintro er w2 ⟨rfl,n2⟩;refine ⟨_,rfl,_,_,_,_,_,_,_,n2,fun w3 n3=> ?_⟩;have hs:oI P (cB F)=qW:=by unfold oI;rw [e.eL,if_neg (fun h=>h rfl),if_pos (.inl q2.kd)]
 rw [hs] at n3;exact MN n3 h1 h2 (e.asked hn) (F:=yt P (cB F)) ⟨q2.kd,q2.t,q2.pc,q2.ps,⟨q2.pl.pc,q2.pl.ps,q2.pl.pg,q2.pl.pu⟩,q2.bad,q2.tk,q2.ad,q2.er⟩ (by omega) hr UH
theorem yZ (n:aQ C K s p q hb S' f m a k cap w P L F jf w') (h1: ∀b,S b→S' b) (h2: ∀b,S' b→S b∨w.heap.size≤b) (e:Ny P t A) (hn:P.S.n≤999) (q1:Ask F t pc ps tk) (htk:tk≤998) (hr:A.r≤1000000000000):
 Ends f (Over C K s p q hb S f m w L.length (MZ A t pc ps (tk+3))) 3 w':=by
 refine fu n x9 (by rw [q1.tk];omega) (fun w1 h=>Rb h) QK fun w1 n1 hw1=> ?_;have q2:=q1.took;refine (Mt n1 q2.pl (.inr (by rw [q2.t,e.H];rfl))).mono ?_;rintro er w2 ⟨rfl,n2⟩;exact ⟨_,rfl,_,_,_,_,_,_,_,n2,fun w3 n3=>MJ n3 h1 h2 e hn q2 (by omega) hr⟩
theorem Ep {c:Int} (h1:0≤c) (h2:c<12):bF h0 c=(h0,0,4, []):=by
 unfold bF;rw [if_neg (by omega)];rfl
theorem D9 (cs:List Int):iD h0 cs= []:=by
 unfold iD fT;refine List.flatMap_eq_nil_iff.2 fun c _=> ?_;split<;>rfl
theorem Ny.loc (h:Ny P t A) (q1:Ask F t pc ps tk) (h1:0≤F.pc) (h2:F.pc<12):Ny (vX P F) t A:=by
 have e1:vX P F=P.oo t h0 P.A:=by unfold vX;rw [q1.t,h.H,Ep h1 h2]
 rw [e1];exact ⟨h.o.put _ _,jo ..,h.eA,h.eL,h.gs,h.n,h.hu⟩
theorem Iw (n:aQ C K s p q hb S' f m a k cap w P L F kV w') (hw:w.heap.size≤w'.heap.size) (h1: ∀b,S b→S' b) (h2: ∀b,S' b→S b∨w.heap.size≤b) (e:Ny P t A) (hn:P.S.n≤999) (q1:Ask F t pc ps tk) (hp1:0≤F.pc) (hp2:F.pc<12) (htk:tk≤997) (hr:A.r≤1000000000000):
 Ends f (Over C K s p q hb S f m w L.length (MZ A t pc ps (tk+4))) 4 w':=by
 refine fu n Ef (by rw [q1.tk];omega) (fun w1 h=>Ra h) QJ fun w1 n1 hw1=> ?_;have q2:=q1.took;have hlh:bF (P.H (cB F).t) (cB F).pc=(h0,0,4, []):=by rw [q2.t,e.H];exact Ep hp1 hp2
 refine (LV n1 (Nat.le_trans hw hw1) q2.pl.pc fun L1 _ _ h3=>by rw [hlh] at h3;cases h3).mono ?_;rintro er w2 ⟨L1,hl,_,_,hk⟩;obtain ⟨rfl,S3,a3,k3,aei,n3,i1,i2⟩:=hk (by rw [hlh];decide);refine ⟨_,rfl,_,_,_,_,_,_,_,n3,fun w3 n4=> ?_⟩;have hpg:iD (bF (P.H (cB F).t) (cB F).pc).1 [(cB F).pc]= []:=by rw [hlh];exact D9 _
 rw [hpg] at n4;have hs:fD (vX P (cB F)) (fU (cB F) [])=jf:=by unfold fD;rw [if_neg (fun h=>h rfl),if_pos (.inl q2.kd)]
 rw [hs] at n4;have:=yZ (S:=S) (tk:=tk+1) n4 (fun b hb=>i1 b (h1 b hb)) (fun b hb=>(i2 b hb).elim (h2 b) .inr) (e.loc q2 hp1 hp2) hn (F:=fU (cB F) []) ⟨q2.kd,q2.t,q2.pc,q2.ps,⟨q2.pl.pc,q2.pl.ps,q2.pl.pg,q2.pl.pu⟩,q2.bad,q2.tk,q2.ad,q2.er⟩ (by omega) hr;rw [hl] at this;exact this
theorem E5 (n:aQ C K s p q hb S' f m a k cap w P L F jJ w') (h1: ∀b,S b→S' b) (h2: ∀b,S' b→S b∨w.heap.size≤b) (htk:F.took≤1000):
 Ends f (Over C K s p q hb S f m w L.length fun P' _ F'=>P'=P∧F'={cB F with err:=2}) 1 w':=by
 refine fu n Ak (by omega) (fun w1 h=>Ng h) MR fun w1 n1 hw1=> ?_;refine (Lg n1.fr).mono ?_;rintro er w2 ⟨rfl,h4,u4⟩;exact ⟨_,rfl,_,_,_,_,_,_,_,n1.Ck h4 u4,fun w3 n3=>gu n3 h1 h2 ⟨rfl,rfl⟩⟩
structure Ku (P0:SY) (pg:Int) (tk:Nat) (P:SY) (F:FR):Prop where
 P:P=(resE P0 pg).2.2
 er:F.err=(resE P0 pg).2.1
 ad:F.addr=(resE P0 pg).1
 tk:F.took=tk
theorem Ca (e:Only P t) {n:Int} {L:List Nat} (hB:(P.H t).B= []) (hg:aA.Good P.A) (hsz:P.A.S*16384=L.length) (h0:(resE P n).2.1=0):nM (resE P n).2.2 L (resE P n).1:=by
 have hall: ∀Y∈(resE P n).2.2.all,False:=fun Y hY=>by
  have hY':Y∈P.all:=by
   unfold resE at hY;split at hY
   · exact hY
   · exact hY
  have:=e.all hY';rw [hB] at this;cases this
 refine ⟨?_,fun Y hY=>(hall Y hY).elim⟩;rcases lS P.A hg n with ⟨j,k,rfl,e2,e3,e4,_,_⟩|⟨hne,_,_⟩
 · have e9:resE P (k:Int)=(j*16384,0,{P with A:=P.A.give j k,hu:=fun i=>if i=j then k else P.hu i}):=by
    unfold resE;rw [e3,if_neg (by simp)];simp
   have hS:=hg.S2;have hh:fI (fun i=>if i=j then k else P.hu i) (j*16384)=some j:=by
    unfold fI;have e5:j*16384/16384=j:=by omega
    rw [e5,if_pos ⟨by omega,by omega,by show (if j=j then k else P.hu j)≠0;rw [if_pos rfl];omega⟩]
   rw [e9];unfold tK;rw [hh];simp only [if_pos];omega
 · unfold resE at h0
   rw [if_pos hne] at h0;exact absurd h0 hne
theorem ML (n:aQ C K s p q hb S' f m a k cap w P L F qV w') (h1: ∀b,S b→S' b) (h2: ∀b,S' b→S b∨w.heap.size≤b) (e:Only P t) (hB:(P.H t).B= []) (hk:F.kd=1) (ha:F.addr=0) (he:F.err=0) (htk:F.took≤1000) (hr:P.A.r≤1000000000000):
 Ends f (Over C K s p q hb S f m w L.length fun P' _ F'=>Ku P F.pg (F.took+1) P' F') 1 w':=by
 refine fu n JN (by omega) (fun w1 h=>Ve h) UG fun w1 n1 hw1=> ?_;have ok:(resE P (cB F).pg).2.1=0→nM (resE P (cB F).pg).2.2 L (resE P (cB F).pg).1:=fun h=>Ca e hB n1.os.vG n1.os.size h;refine (Qh n1 hr fun h3 _ _=>ok h3).mono ?_;rintro er w2 ⟨rfl,n2⟩;refine ⟨_,rfl,_,_,_,_,_,_,_,n2,fun w3 n3=> ?_⟩;have hs:lY (cB F) (resE P (cB F).pg).2.1=cK:=by
  unfold lY;split
  · rfl
  · rw [if_neg (show ¬(cB F).kd=3 by show ¬F.kd=3;rw [hk];decide)]
 rw [hs] at n3;have hl:=Al (resE P (cB F).pg).2.2 L (cB F) (resE P (cB F).pg).1 (resE P (cB F).pg).2.1 fun h3 _ _=>ok h3;have:=gu (S:=S) (Z:=fun P' _ F'=>Ku P F.pg (F.took+1) P' F') n3 h1 h2 ⟨rfl, ?_, ?_, ?_⟩
 · rw [hl] at this;exact this
 · unfold iZ
   split
   · rfl
   · rename_i h;exact he.trans (Decidable.not_not.1 h).symm
 · unfold iZ
   split
   · rename_i h
     show F.addr=_;rw [ha];have:(reserve P.A (cB F).pg).2.1≠0:=fun h5=>h (by unfold resE;rw [if_neg (fun h=>h h5)]);show 0=(resE P (cB F).pg).1;unfold resE;rw [if_pos this]
   · rfl
 · exact (qI (cB F) _ _).2.2.2.2.2.2.2.1
end
end Go.Proofs.YtpibbcnkgdmcbaaGreatDoor
namespace Go.Proofs.YtpibbcnkgdmcbaaGreatDoor
open Go.RowKit aC aF aG aI au aD aB aA bf
def ZZ (A:St) (t:Nat) (P0:SY) (n al:Nat) (P:SY) (L:List Nat) (F:FR):Prop:=
 ((dV n (max al 1)).2≠0∧P=P0∧F.err=2∧F.addr=0∧F.took=1)∨
 ((dV n (max al 1)).2=0∧0<(dV n (max al 1)).1.sg∧Ku P0 ((dV n (max al 1)).1.sg:Int) 1 P F)∨
 ((dV n (max al 1)).2=0∧(dV n (max al 1)).1.sg=0∧((0≤(dV n (max al 1)).1.c∧MZ A t (dV n (max al 1)).1.c ((dV n (max al 1)).1.sl:Int) 4 P L F)∨((dV n (max al 1)).1.c= -1∧MZ A t (-1) ((dV n (max al 1)).1.sl:Int) 3 P L F)))
theorem size_le (c:Nat) (h:c<12):aK c≤1024∧aM c≤4:=⟨(show ∀c,c<12→aK c≤1024 from kT (by decide)) c h,(qB c h).2.2.2.2.2⟩
section
variable {w0 w w' w1 w2:World} {C:fH w0} {K:kW w0 C} {s p q g f m k cap:Nat} {hb:Nat→Nat} {own own':Nat→Prop} {O:Nat→Nat→Prop} {B:Nat→List SB} {R:List SB} {P P':SY} {L L':List Nat} {S S' T:Nat→Prop} {F F':FR} {st st':ByteArray} {a:Option Addr} {t:Nat} {A:St}
theorem qQ {f:Nat} {j:Nat} {Z Z':SY→List Nat→FR→Prop} {l:Nat} (h: ∀P L F,Z P L F→Z' P L F): ∀{j:Nat} {w':World},Ends f (Over C K s p q hb S f m w l Z) j w'→Ends f (Over C K s p q hb S f m w l Z') j w'
 |0,_,e=>e.mono fun e w1 k=>⟨k.1,by obtain ⟨P,L,F,h1,h2,h3⟩:=k.2;exact ⟨P,L,F,h1,h P L F h2,h3⟩⟩
 |j+1,_,e=>e.elim (fun e=> .inl (e.mono fun e w1 k=>⟨k.1,by obtain ⟨P,L,F,h1,h2,h3⟩:=k.2;exact ⟨P,L,F,h1,h P L F h2,h3⟩⟩)) fun e=> .inr (e.mono fun e w1 k=>⟨k.1,qQ (j:=j) h k.2⟩)
theorem uo {ad n al:Nat} {zz fo:Bool} (i:aQ C K s p q hb S' f m a k cap w P L (zi (jS t 1 ad n al zz fo)) (sU (jS t 1 ad n al zz fo)) w') (hw:w.heap.size≤w'.heap.size) (h1: ∀b,S b→S' b) (h2: ∀b,S' b→S b∨w.heap.size≤b) (e:Ny P t A) (hn:P.S.n≤900) (hr:A.r≤1000000000000):
 ∃j,j≤4∧Ends f (Over C K s p q hb S f m w L.length (ZZ A t P n al)) j w':=by
 obtain ⟨fr,hfr⟩: ∃x,dV n (max al 1)=x:=⟨_,rfl⟩;have eF:zi (jS t 1 ad n al zz fo)=if fr.2≠0 then jS t 1 ad n al zz fo else vo (jS t 1 ad n al zz fo) fr.1.c (fr.1.sl:Int) (fr.1.sg:Int) fr.1.us:=by
  unfold zi;rw [←hfr];rfl
 have eS:sU (jS t 1 ad n al zz fo)=if fr.2≠0 then jJ else nS fr.1.c (fr.1.sg:Int):=by
  unfold sU;rw [←hfr];rfl
 by_cases hg:iQ (max al 1)=true∧n≤1048576
 · have hz:fr.2=0:=by rw [←hfr];exact J9 hg.1 hg.2
   rw [if_neg (fun h=>h hz)] at eF eS;rw [eF,eS] at i;rcases Nat.lt_or_ge 15360 n with h3|h3
   · have e3:=kH hg.1 h3 hg.2
     rw [hfr] at e3;have hup:1≤au.up n 16384:=Bl (by decide) (by omega);have hs:nS fr.1.c (fr.1.sg:Int)=qV:=by rw [e3];unfold nS;rw [if_pos (show (0:Int)<((au.up n 16384:Nat):Int) by omega)]
     rw [hs] at i;have hB:(P.H t).B= []:=by rw [e.H];rfl
     refine ⟨1,by omega,qQ (j:=1) (fun P' L' F' z=> ?_) (ML i h1 h2 e.o hB rfl rfl rfl (show (0:Nat)≤1000 by omega) (by rw [e.eA];exact hr))⟩;refine .inr (.inl ⟨by rw [hfr];exact hz,by rw [hfr,e3];exact hup, ?_⟩);rw [hfr];exact z
   · rcases Nat.lt_or_ge 1024 n with h4|h4
     · have e3:=oQ hg.1 h4 h3
       rw [hfr] at e3;have hs:nS fr.1.c (fr.1.sg:Int)=jf:=by rw [e3];unfold nS;rw [if_neg (show ¬(0:Int)<((0:Nat):Int) by omega),if_neg (fun h=>h rfl)]
       rw [hs,e3] at i;have abn:1≤au.up n 1024:=Bl (by decide) (by omega);have Xa:au.up n 1024≤15:=by unfold au.up;omega
       have nb: ¬eX (-1) ((au.up n 1024:Nat):Int):=by unfold eX;omega
       refine ⟨3,by omega,qQ (j:=3) (fun P' L' F' z=> ?_) (yZ (A:=A) (t:=t) (pc:= -1) (ps:=((au.up n 1024:Nat):Int)) (tk:=0) i h1 h2 e (by omega) ⟨rfl,rfl,rfl,rfl,⟨⟨by show (-9223372036854775808:Int)≤ -1;decide,by show (-1:Int)≤_;decide⟩,⟨by show (-9223372036854775808:Int)≤((au.up n 1024:Nat):Int);omega,by show ((au.up n 1024:Nat):Int)≤_;omega⟩,⟨by show (-9223372036854775808:Int)≤((0:Nat):Int);decide,by show ((0:Nat):Int)≤_;decide⟩,by show au.up n 1024*1024≤18446744073709551615;omega⟩,nb,rfl,rfl,rfl⟩ (by omega) hr)⟩;refine .inr (.inr ⟨by rw [hfr];exact hz,by rw [hfr,e3], .inr ⟨by rw [hfr,e3], ?_⟩⟩);rw [hfr,e3];exact z
     · obtain ⟨c,e3,hc,_⟩:=kG hg.1 h4
       rw [hfr] at e3;have hs:nS fr.1.c (fr.1.sg:Int)=kV:=by rw [e3];unfold nS;rw [if_neg (show ¬(0:Int)<((0:Nat):Int) by omega),if_pos (show ((c:Nat):Int)≠ -1 by omega)]
       rw [hs,e3] at i;obtain ⟨s1,s2⟩:=size_le c hc;have nb: ¬eX (c:Int) ((aM c:Nat):Int):=by unfold eX;omega
       refine ⟨4,by omega,qQ (j:=4) (fun P' L' F' z=> ?_) (Iw (A:=A) (t:=t) (pc:=(c:Int)) (ps:=((aM c:Nat):Int)) (tk:=0) i hw h1 h2 e (by omega) ⟨rfl,rfl,rfl,rfl,⟨⟨by show (-9223372036854775808:Int)≤(c:Int);omega,by show (c:Int)≤_;omega⟩,⟨by show (-9223372036854775808:Int)≤((aM c:Nat):Int);omega,by show ((aM c:Nat):Int)≤_;omega⟩,⟨by show (-9223372036854775808:Int)≤((0:Nat):Int);decide,by show ((0:Nat):Int)≤_;decide⟩,by show aK c≤18446744073709551615;omega⟩,nb,rfl,rfl,rfl⟩ (show (0:Int)≤(c:Int) by omega) (show (c:Int)<12 by omega) (by omega) hr)⟩;refine .inr (.inr ⟨by rw [hfr];exact hz,by rw [hfr,e3], .inl ⟨by rw [hfr,e3];show (0:Int)≤(c:Int);omega, ?_⟩⟩);rw [hfr,e3];exact z
 · have e3:=yP hg
   rw [hfr] at e3;have hz:fr.2≠0:=by rw [e3];decide
   rw [if_pos hz] at eF eS;rw [eF,eS] at i;refine ⟨1,by omega,qQ (j:=1) (fun P' L' F' z=> ?_) (E5 i h1 h2 (show (0:Nat)≤1000 by omega))⟩;obtain ⟨z1,z2⟩:=z;exact .inl ⟨by rw [hfr];exact hz,z1,by rw [z2],by rw [z2];rfl,by rw [z2];rfl⟩
end
end Go.Proofs.YtpibbcnkgdmcbaaGreatDoor
