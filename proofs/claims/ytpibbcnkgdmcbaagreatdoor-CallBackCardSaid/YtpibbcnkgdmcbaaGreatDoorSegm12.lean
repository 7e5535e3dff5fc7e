/- Segm12: texts of layers below, joined (SegMath SegMath2). -/
import Derived.Test.YtpibbcnkgdmcbaaGreatDoorPages12
import Derived.Test.YtpibbcnkgdmcbaaGreatDoorMarkMath
import Derived.Test.YtpibbcnkgdmcbaaGreatDoorClassMath
set_option linter.unusedVariables false
namespace Go.Proofs.YtpibbcnkgdmcbaaGreatDoor.aI
open aC aG aF au
open aj (bI setAt low Low left aZ cO jc Em He P6 mZ uq)
structure bY where
 op:Nat
 pp:Nat
 cls:Int
 lo:Nat
 wd:Nat
 P:PG
structure SG where
 pl:Nat
 K:List Bool
 L:List bY
 ow:Nat
 ot:Nat
 oa:Nat
def ni (l:List bY) (o:bY):List bY:=(l.filter fun x=>decide (x.lo<o.lo))++o::(l.filter fun x=>decide (o.lo<x.lo))
def aL (pl a:Nat):Nat:=pl*16384+a*1024
def PO:List Bool:=true::aj.rep 15 false
def iY (pl:Nat):SG:=⟨pl,PO, [],0,0,0⟩
def SG.add (X:SG) (op pp:Nat) (cls:Int) (a wd n s:Nat):SG:={X with K:=setAt X.K a wd true,L:=ni X.L ⟨op,pp,cls,a,wd,bR (aL X.pl a) s n⟩}
def SG.cut (X:SG) (o:bY):SG:={X with K:=setAt X.K o.lo o.wd false,L:=X.L.filter fun x=>decide (x.lo≠o.lo)}
def SG.put (X:SG) (pp:Nat) (S:PG):SG:={X with L:=X.L.map fun o=>if o.pp=pp then {o with P:=S} else o}
def nH (o:bY):Prop:=(o.cls= -1∧o.P.n=1∧o.P.s=o.wd*1024)∨ ∃c:Nat,c<12∧o.cls=(c:Int)∧o.P.n=bE c∧o.P.s=aK c∧o.wd=aM c
def jm (l:List bY):Nat:=(l.map fun o=>o.wd).sum
structure bX (X:SG):Prop where
 len:X.K.length=16
 mark: ∀i,i<16→(X.K.getD i true=true↔(i=0∨ ∃o∈X.L,o.lo≤i∧i<o.lo+o.wd))
 rise:X.L.Pairwise fun a b=>a.lo+a.wd≤b.lo
 fit: ∀o∈X.L,1≤o.lo∧1≤o.wd∧o.lo+o.wd≤16
 run: ∀o∈X.L,o.P.f=aL X.pl o.lo
 cls: ∀o∈X.L,nH o
 sum:left X.K+jm X.L=15
theorem qB: ∀c:Nat,c<12→aK c*bE c≤aM c*1024∧16≤aK c∧3≤bE c∧bE c≤64∧1≤aM c∧aM c≤4:=kT (P:=fun c=>aK c*bE c≤aM c*1024∧16≤aK c∧3≤bE c∧bE c≤64∧1≤aM c∧aM c≤4) (by decide)
theorem nH.size {o:bY} (h:nH o) (hw:1≤o.wd):16≤o.P.s∧1≤o.P.n∧o.P.n≤64∧o.P.n*o.P.s≤o.wd*1024:=by
 rcases h with ⟨_,h1,h2⟩|⟨c,hc,_,h1,h2,h3⟩
 · rw [h1,h2];omega
 · obtain ⟨g1,g2,g3,g4,_,_⟩:=qB c hc
   rw [h1,h2,h3,Nat.mul_comm];omega
theorem OP {l:List bY} (h:l.Pairwise fun a b=>a.lo+a.wd≤b.lo) (hw: ∀o∈l,1≤o.wd) {a b:bY} (ha:a∈l) (hb:b∈l):a=b∨a.lo+a.wd≤b.lo∨b.lo+b.wd≤a.lo:=by
 induction l with
 |nil=>cases ha
 |cons x t ih=>
  obtain ⟨h1,h2⟩:=List.pairwise_cons.1 h;rcases List.mem_cons.1 ha with rfl|ha2
  · rcases List.mem_cons.1 hb with rfl|hb2
    · exact .inl rfl
    · exact .inr (.inl (h1 b hb2))
  · rcases List.mem_cons.1 hb with rfl|hb2
    · exact .inr (.inr (h1 a ha2))
    · exact ih h2 (fun o ho=>hw o (List.mem_cons_of_mem _ ho)) ha2 hb2
theorem bX.two {X:SG} (g:bX X) {a b:bY} (ha:a∈X.L) (hb:b∈X.L):a=b∨a.lo+a.wd≤b.lo∨b.lo+b.wd≤a.lo:=OP g.rise (fun o ho=>(g.fit o ho).2.1) ha hb
theorem bX.one {X:SG} (g:bX X) {a b:bY} (ha:a∈X.L) (hb:b∈X.L) (h:a.lo=b.lo):a=b:=by
 have h1:=(g.fit a ha).2.1;have h2:=(g.fit b hb).2.1;rcases g.two ha hb with e|e|e
 · exact e
 · omega
 · omega
theorem bX.within {X:SG} (g:bX X) {o:bY} (h:o∈X.L):o.P.f=aL X.pl o.lo∧o.P.f+o.P.n*o.P.s≤aL X.pl (o.lo+o.wd):=by
 have h1:=g.run o h;have h2:=(g.cls o h).size (g.fit o h).2.1;refine ⟨h1, ?_⟩;rw [h1];unfold aL;omega
theorem bX.apart {X:SG} (g:bX X) {a b:bY} (ha:a∈X.L) (hb:b∈X.L) (hne:a≠b):a.P.f+a.P.n*a.P.s≤b.P.f∨b.P.f+b.P.n*b.P.s≤a.P.f:=by
 obtain ⟨a1,a2⟩:=g.within ha;obtain ⟨b1,b2⟩:=g.within hb;unfold aL at a1 a2 b1 b2;rcases g.two ha hb with e|e|e
 · exact absurd e hne
 · left;omega
 · right;omega
theorem bX.free {X:SG} (g:bX X) {a k:Nat} (hk:1≤k) (h:bI X.K a k false):1≤a∧a+k≤16∧ ∀o∈X.L,o.lo+o.wd≤a∨a+k≤o.lo:=by
 have hl:a+k≤16:=by have:=h.le hk;rw [g.len] at this;exact this
 have hfree: ∀j,j<k→X.K.getD (a+j) true=false:=fun j hj=>by have:=h j hj;exact this
 refine ⟨?_,hl,fun o ho=> ?_⟩
 · rcases Nat.eq_zero_or_pos a with e|e
   · have h0:=hfree 0 hk
     rw [e,Nat.add_zero] at h0;have:=(g.mark 0 (by omega)).2 (.inl rfl);rw [h0] at this;cases this
   · exact e
 · have hf:=g.fit o ho
   rcases Nat.lt_or_ge a (o.lo+o.wd) with h1|h1
   · rcases Nat.lt_or_ge o.lo (a+k) with h2|h2
     · exfalso
       obtain ⟨i,hi1,hi2,hi3,hi4⟩: ∃i,a≤i∧i<a+k∧o.lo≤i∧i<o.lo+o.wd:=⟨max a o.lo,by omega,by omega,by omega,by omega⟩;have h3:=(g.mark i (by omega)).2 (.inr ⟨o,ho,hi3,hi4⟩);have h4:=hfree (i-a) (by omega);rw [show a+(i-a)=i by omega] at h4;rw [h4] at h3;cases h3
     · exact .inr h2
   · exact .inl h1
theorem filter_all {l:List bY} {p:bY→Bool} (h: ∀x∈l,p x=true):l.filter p=l:=List.filter_eq_self.2 h
theorem fZ {l:List bY} {o x:bY}:x∈ni l o↔(x=o∨(x∈l∧x.lo≠o.lo)):=by
 unfold ni;simp only [List.mem_append,List.mem_filter,List.mem_cons,decide_eq_true_eq];constructor
 · rintro (⟨h1,h2⟩|rfl|⟨h1,h2⟩)
   · exact .inr ⟨h1,by omega⟩
   · exact .inl rfl
   · exact .inr ⟨h1,by omega⟩
 · rintro (rfl|⟨h1,h2⟩)
   · exact .inr (.inl rfl)
   · rcases Nat.lt_or_ge x.lo o.lo with h|h
     · exact .inl ⟨h1,h⟩
     · exact .inr (.inr ⟨h1,by omega⟩)
theorem Ot (a b:List bY):jm (a++b)=jm a+jm b:=by simp [jm]
theorem gq (o:bY) (b:List bY):jm (o::b)=o.wd+jm b:=by simp [jm]
theorem xC {o:bY}: ∀{l:List bY},(∀x∈l,x.lo≠o.lo)→jm (l.filter fun x=>decide (x.lo<o.lo))+jm (l.filter fun x=>decide (o.lo<x.lo))=jm l
 | [],_=>rfl
 |x::t,h=>by
  have ih:=xC (o:=o) (l:=t) fun y hy=>h y (List.mem_cons_of_mem _ hy);have hx:=h x (List.mem_cons_self ..);rcases Nat.lt_or_ge x.lo o.lo with h1|h1
  · rw [List.filter_cons_of_pos (by simpa using h1),List.filter_cons_of_neg (by simp;omega),gq,gq];omega
  · rw [List.filter_cons_of_neg (by simp;omega),List.filter_cons_of_pos (by simp;omega),gq,gq];omega
theorem bX.add {X:SG} (g:bX X) {a wd n s:Nat} {cls:Int} {op pp:Nat} (hk:1≤wd) (h:bI X.K a wd false) (hc:nH ⟨op,pp,cls,a,wd,bR (aL X.pl a) s n⟩):bX (X.add op pp cls a wd n s):=by
 obtain ⟨h1,h2,h3⟩:=g.free hk h;have hlk:a+wd≤X.K.length:=by rw [g.len];exact h2
 have hlo: ∀x∈X.L,x.lo≠a:=fun x hx=>by have:=h3 x hx;have:=(g.fit x hx).2.1;omega
 refine ⟨by show (setAt X.K a wd true).length=16;rw [aZ _ hlk,g.len],fun i hi=> ?_, ?_,fun o ho=> ?_,fun o ho=> ?_,fun o ho=> ?_, ?_⟩
 · show (setAt X.K a wd true).getD i true=true↔(i=0∨ ∃o∈ni X.L ⟨op,pp,cls,a,wd,bR (aL X.pl a) s n⟩,o.lo≤i∧i<o.lo+o.wd)
   rw [cO _ hlk];by_cases hia:a≤i∧i<a+wd
   · rw [if_pos hia]
     exact ⟨fun _=> .inr ⟨_,fZ.2 (.inl rfl),hia⟩,fun _=>rfl⟩
   · rw [if_neg hia,g.mark i hi]
     constructor
     · rintro (rfl|⟨o,ho,hx⟩)
       · exact .inl rfl
       · exact .inr ⟨o,fZ.2 (.inr ⟨ho,hlo o ho⟩),hx⟩
     · rintro (rfl|⟨o,ho,hx⟩)
       · exact .inl rfl
       · rcases fZ.1 ho with rfl|⟨ho,_⟩
         · exact absurd hx hia
         · exact .inr ⟨o,ho,hx⟩
 · show (ni X.L _).Pairwise _
   unfold ni;rw [List.pairwise_append,List.pairwise_cons];refine ⟨g.rise.filter _,⟨fun x hx=> ?_,g.rise.filter _⟩,fun x hx y hy=> ?_⟩
   · have hx':=List.mem_filter.1 hx
     have:=h3 x hx'.1;have hlt:a<x.lo:=by simpa using hx'.2
     show a+wd≤x.lo;have:=(g.fit x hx'.1).2.1;omega
   · have hx':=List.mem_filter.1 hx
     have hlx:x.lo<a:=by simpa using hx'.2
     have hx3:=h3 x hx'.1;have hxw:=(g.fit x hx'.1).2.1;rcases List.mem_cons.1 hy with rfl|hy
     · show x.lo+x.wd≤a
       omega
     · have hy':=List.mem_filter.1 hy
       have hly:a<y.lo:=by simpa using hy'.2
       omega
 · rcases fZ.1 ho with rfl|⟨ho,_⟩
   · exact ⟨h1,hk,h2⟩
   · exact g.fit o ho
 · rcases fZ.1 ho with rfl|⟨ho,_⟩
   · rfl
   · exact g.run o ho
 · rcases fZ.1 ho with rfl|⟨ho,_⟩
   · exact hc
   · exact g.cls o ho
 · show left (setAt X.K a wd true)+jm (ni X.L _)=15
   have e1:=mZ hlk h;have e2:=g.sum;unfold ni;rw [Ot,gq];have e3:=xC (o:=⟨op,pp,cls,a,wd,bR (aL X.pl a) s n⟩) (l:=X.L) hlo;show left (setAt X.K a wd true)+(jm (X.L.filter fun x=>decide (x.lo<a))+(wd+jm (X.L.filter fun x=>decide (a<x.lo))))=15;have e3':jm (X.L.filter fun x=>decide (x.lo<a))+jm (X.L.filter fun x=>decide (a<x.lo))=jm X.L:=e3;omega
theorem bX.taken {X:SG} (g:bX X) {o:bY} (h:o∈X.L):bI X.K o.lo o.wd true:=fun j hj=>by
 have hf:=g.fit o h;have:=(g.mark (o.lo+j) (by omega)).2 (.inr ⟨o,h,by omega,by omega⟩);show X.K.getD (o.lo+j) false=true;rw [aj.mg (by rw [g.len];omega) false true];exact this
theorem Dq {o:bY}: ∀{l:List bY},(l.Pairwise fun a b=>a.lo+a.wd≤b.lo)→(∀x∈l,1≤x.wd)→o∈l→jm (l.filter fun x=>decide (x.lo≠o.lo))+o.wd=jm l
 | [],_,_,h=>by cases h
 |x::t,hp,hw,h=>by
  obtain ⟨p1,p2⟩:=List.pairwise_cons.1 hp;rcases List.mem_cons.1 h with rfl|h
  · have:t.filter (fun x=>decide (x.lo≠o.lo))=t:=filter_all fun y hy=>by
     have:=p1 y hy;have:=hw o (List.mem_cons_self ..);simp;omega
    rw [List.filter_cons_of_neg (by simp),this,gq];omega
  · have:=p1 o h;have:=hw x (List.mem_cons_self ..)
    have ih:=Dq p2 (fun y hy=>hw y (List.mem_cons_of_mem _ hy)) h;rw [List.filter_cons_of_pos (by simp;omega),gq,gq];omega
theorem bX.cut {X:SG} (g:bX X) {o:bY} (h:o∈X.L):bX (X.cut o):=by
 have hf:=g.fit o h;have hlk:o.lo+o.wd≤X.K.length:=by rw [g.len];omega
 have hm: ∀x,x∈(X.cut o).L↔(x∈X.L∧x.lo≠o.lo):=fun x=>by
  show x∈X.L.filter _↔_;rw [List.mem_filter];simp
 refine ⟨by show (setAt X.K o.lo o.wd false).length=16;rw [aZ _ hlk,g.len],fun i hi=> ?_,g.rise.filter _,fun x hx=>g.fit x ((hm x).1 hx).1,fun x hx=>g.run x ((hm x).1 hx).1,fun x hx=>g.cls x ((hm x).1 hx).1, ?_⟩
 · show (setAt X.K o.lo o.wd false).getD i true=true↔_
   rw [cO _ hlk];by_cases hia:o.lo≤i∧i<o.lo+o.wd
   · rw [if_pos hia]
     refine ⟨(fun x=>by cases x),fun x=> ?_⟩;exfalso;rcases x with rfl|⟨y,hy,hx⟩
     · omega
     · obtain ⟨hy1,hy2⟩:=(hm y).1 hy
       rcases g.two hy1 h with e|e|e
       · exact hy2 (by rw [e])
       · omega
       · omega
   · rw [if_neg hia,g.mark i hi]
     constructor
     · rintro (rfl|⟨y,hy,hx⟩)
       · exact .inl rfl
       · exact .inr ⟨y,(hm y).2 ⟨hy,fun e=>hia (by have:=g.one hy h e;subst this;exact hx)⟩,hx⟩
     · rintro (rfl|⟨y,hy,hx⟩)
       · exact .inl rfl
       · exact .inr ⟨y,((hm y).1 hy).1,hx⟩
 · show left (setAt X.K o.lo o.wd false)+jm (X.L.filter fun x=>decide (x.lo≠o.lo))=15
   have e1:=uq hlk (g.taken h);have e2:=Dq g.rise (fun x hx=>(g.fit x hx).2.1) h;have e3:=g.sum;omega
theorem put_mem {X:SG} {pp:Nat} {S:PG} {x:bY}:x∈(X.put pp S).L↔ ∃o∈X.L,x=if o.pp=pp then {o with P:=S} else o:=by
 show x∈X.L.map _↔_;rw [List.mem_map];exact ⟨fun ⟨o,h,e⟩=>⟨o,h,e.symm⟩,fun ⟨o,h,e⟩=>⟨o,h,e.symm⟩⟩
theorem dL (o:bY) (pp:Nat) (S:PG):(if o.pp=pp then {o with P:=S} else o).lo=o.lo∧(if o.pp=pp then {o with P:=S} else o).wd=o.wd∧(if o.pp=pp then {o with P:=S} else o).op=o.op∧(if o.pp=pp then {o with P:=S} else o).pp=o.pp∧(if o.pp=pp then {o with P:=S} else o).cls=o.cls:=by
 split<;>exact ⟨rfl,rfl,rfl,rfl,rfl⟩
theorem bX.put {X:SG} (g:bX X) {pp:Nat} {S:PG} (h: ∀o∈X.L,o.pp=pp→S.f=o.P.f∧S.s=o.P.s∧S.n=o.P.n):bX (X.put pp S):=by
 refine ⟨g.len,fun i hi=> ?_, ?_,fun x hx=> ?_,fun x hx=> ?_,fun x hx=> ?_, ?_⟩
 · show X.K.getD i true=true↔_
   rw [g.mark i hi];constructor
   · rintro (rfl|⟨o,ho,hx⟩)
     · exact .inl rfl
     · refine .inr ⟨_,put_mem.2 ⟨o,ho,rfl⟩, ?_⟩
       obtain ⟨e1,e2,_⟩:=dL o pp S;rw [e1,e2];exact hx
   · rintro (rfl|⟨x,hx,hi⟩)
     · exact .inl rfl
     · obtain ⟨o,ho,rfl⟩:=put_mem.1 hx
       obtain ⟨e1,e2,_⟩:=dL o pp S;rw [e1,e2] at hi;exact .inr ⟨o,ho,hi⟩
 · show (X.L.map _).Pairwise _
   rw [List.pairwise_map];refine g.rise.imp fun {a b} hab=> ?_;rw [(dL a pp S).1,(dL a pp S).2.1,(dL b pp S).1];exact hab
 · obtain ⟨o,ho,rfl⟩:=put_mem.1 hx
   obtain ⟨e1,e2,_⟩:=dL o pp S;rw [e1,e2];exact g.fit o ho
 · obtain ⟨o,ho,rfl⟩:=put_mem.1 hx
   have hr:=g.run o ho;rw [(dL o pp S).1];split
   · rename_i hp;exact ((h o ho hp).1).trans hr
   · exact hr
 · obtain ⟨o,ho,rfl⟩:=put_mem.1 hx
   have hr:=g.cls o ho;split
   · rename_i hp
     obtain ⟨s1,s2,s3⟩:=h o ho hp;unfold nH at hr⊢;show (o.cls= -1∧S.n=1∧S.s=o.wd*1024)∨ ∃c:Nat,c<12∧o.cls=(c:Int)∧S.n=bE c∧S.s=aK c∧o.wd=aM c;rw [s2,s3];exact hr
   · exact hr
 · show left X.K+jm (X.L.map _)=15
   have e:jm (X.L.map fun o=>if o.pp=pp then {o with P:=S} else o)=jm X.L:=by
    unfold jm;rw [List.map_map]
    congr 1
    refine List.map_congr_left fun o ho=> ?_;exact (dL o pp S).2.1
   rw [e];exact g.sum
theorem bX.new (pl:Nat):bX (iY pl):=by
 refine ⟨rfl,fun i hi=> ?_,List.Pairwise.nil,(fun o h=>by cases h),(fun o h=>by cases h),(fun o h=>by cases h),show left PO+0=15 by decide⟩;show PO.getD i true=true↔_;have e: ∀i:Nat,i<16→(PO.getD i true=true↔i=0):=by decide
 rw [e i hi];constructor
 · exact fun h=> .inl h
 · rintro (h|⟨o,h,_⟩)
   · exact h
   · cases h
def Nu (X:SG) (at':Int):Option bY:=X.L.find? fun o=>decide ((o.lo:Int)=at')
def zB (X:SG) (i:Nat):Option bY:=X.L.find? fun o=>decide (o.lo≤i)&&decide (i<o.lo+o.wd)
def mq (X:SG) (a:Nat):Int:=if a<X.pl*16384∨X.pl*16384+16384≤a then 3 else if (zB X ((a-X.pl*16384)/1024)).isSome then 0 else 5
def bJ (X:SG) (a:Nat):Option bY:=if a<X.pl*16384∨X.pl*16384+16384≤a then none else zB X ((a-X.pl*16384)/1024)
def iL (X:SG) (at':Int):SG×Int:=match Nu X at' with
 |none=>(X,5)
 |some o=>if 0<o.P.used then (X,6) else (X.cut o,0)
theorem sZ {X:SG} {a:Int} {o:bY} (h:Nu X a=some o):o∈X.L∧(o.lo:Int)=a:=⟨List.mem_of_find?_eq_some h,by have:=List.find?_some h;simpa using this⟩
theorem bX.Rf {X:SG} (g:bX X) {o:bY} (h:o∈X.L):Nu X (o.lo:Int)=some o:=by
 cases he:Nu X (o.lo:Int) with
 |none=>
  have:=List.find?_eq_none.1 he o h;simp at this
 |some x=>
  obtain ⟨h1,h2⟩:=sZ he;rw [g.one h1 h (by omega)]
theorem kD {X:SG} {i:Nat} {o:bY} (h:zB X i=some o):o∈X.L∧o.lo≤i∧i<o.lo+o.wd:=⟨List.mem_of_find?_eq_some h,by have:=List.find?_some h;simpa using this⟩
theorem bX.oN {X:SG} (g:bX X) {o:bY} {i:Nat} (h:o∈X.L) (h1:o.lo≤i) (h2:i<o.lo+o.wd):zB X i=some o:=by
 cases he:zB X i with
 |none=>
  have:=List.find?_eq_none.1 he o h;simp [h1,h2] at this
 |some x=>
  obtain ⟨x1,x2,x3⟩:=kD he;rcases g.two x1 h with e|e|e
  · rw [e]
  · omega
  · omega
theorem bX.dropped {X:SG} (g:bX X) (a:Int):bX (iL X a).1:=by
 unfold iL;cases h:Nu X a with
 |none=>exact g
 |some o=>
  simp only [];split
  · exact g
  · exact g.cut (sZ h).1
end Go.Proofs.YtpibbcnkgdmcbaaGreatDoor.aI
namespace Go.Proofs.YtpibbcnkgdmcbaaGreatDoor.aI
open aC aG aF au
theorem Dp: ∀{l:List bY},(∀o∈l,1≤o.wd)→l.length≤jm l
 | [],_=>Nat.le_refl _
 |o::t,h=>by
  have ih:=Dp (l:=t) fun x hx=>h x (List.mem_cons_of_mem _ hx);have h1:=h o (List.mem_cons_self ..);rw [gq,List.length_cons];omega
theorem bX.count {X:SG} (g:bX X):X.L.length≤15:=by
 have h1:=Dp fun o ho=>(g.fit o ho).2.1;have h2:=g.sum;omega
theorem Dn: ∀{l:List bY} {o:bY},o∈l→o.wd≤jm l
 | [],_,h=>by cases h
 |x::t,o,h=>by
  rw [gq];rcases List.mem_cons.1 h with rfl|h
  · omega
  · have:=Dn h;omega
end Go.Proofs.YtpibbcnkgdmcbaaGreatDoor.aI
