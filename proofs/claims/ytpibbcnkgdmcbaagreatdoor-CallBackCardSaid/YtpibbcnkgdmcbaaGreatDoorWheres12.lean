/- Wheres12: texts of layers below, joined (PageMath PageWh PageFresh). -/
import Derived.Test.YtpibbcnkgdmcbaaGreatDoorMaths12
import Derived.Test.YtpibbcnkgdmcbaaGreatDoorGeos12
set_option linter.unusedVariables false
namespace Go.Proofs.YtpibbcnkgdmcbaaGreatDoor.aF
open aC aG ay
def Agree (L L' X:List Nat):Prop:=L'.length=L.length∧ ∀i,(∀x∈X,i<x∨x+8≤i)→L'.getD i 0=L.getD i 0
theorem Agree.refl (L X:List Nat):Agree L L X:=⟨rfl,fun _ _=>rfl⟩
theorem Agree.mono {L L' X Y:List Nat} (h:Agree L L' X) (hs: ∀x∈X,x∈Y):Agree L L' Y:=⟨h.1,fun i hi=>h.2 i fun x hx=>hi x (hs x hx)⟩
theorem Agree.trans {A B C X Y:List Nat} (h:Agree A B X) (k:Agree B C Y):Agree A C (X++Y):=
 ⟨k.1.trans h.1,fun i hi=>(k.2 i fun x hx=>hi x (List.mem_append_right _ hx)).trans (h.2 i fun x hx=>hi x (List.mem_append_left _ hx))⟩
theorem Agree.put {L:List Nat} {a x:Nat} (ha:a+8≤L.length):Agree L (iC L a x) [a]:=by
 refine ⟨fQ ha,fun i hi=> ?_⟩;have:=hi a (List.mem_singleton.2 rfl);unfold iC;rw [fC (by rw [length_le];exact ha),if_neg (by rw [length_le];omega)]
theorem Agree.part {L L' X:List Nat} (h:Agree L L' X) {o n:Nat} (ho:o+n≤L.length) (hx: ∀x∈X,o+n≤x∨x+8≤o):ay.part L' o n=ay.part L o n:=by
 apply f_
 · rw [dM (by rw [h.1];exact ho),dM ho]
 · intro i hi
   rw [dM (by rw [h.1];exact ho)] at hi;rw [jq hi,jq hi];exact h.2 _ fun x hx'=>by have:=hx x hx';omega
theorem Agree.link {L L' X:List Nat} (h:Agree L L' X) {b:Nat} (hb:b+8≤L.length) (hx: ∀x∈X,g_ x b):dX L' b=dX L b:=by
 unfold dX;rw [h.part hb fun x hx'=>by have:=hx x hx';unfold g_ at this;omega]
theorem Chain.agree {L L' X:List Nat} (h:Agree L L' X): ∀{a:Nat} {l:List Nat},Chain L a l→(∀b∈l,∀x∈X,g_ x b)→Chain L' a l
 |_, [],hc,_=>hc
 |_,b::t,hc,hd=>by
  obtain ⟨rfl,h0,h8,hc⟩:=hc;refine ⟨rfl,h0,by rw [h.1];exact h8, ?_⟩;rw [h.link h8 (hd _ (List.mem_cons_self ..))];exact Chain.agree h hc fun c hc=>hd c (List.mem_cons_of_mem _ hc)
theorem qU {L:List Nat} {h:Nat} {l:List Nat} (hc:Chain L h l):h=l.headD 0:=by
 cases l with
 |nil=>exact hc
 |cons a t=>exact hc.1
def bO (f s m a:Nat):Prop:= ∃i,i<m∧a=f+i*s
theorem bO.mono {f s m k a:Nat} (h:bO f s m a) (hk:m≤k):bO f s k a:=by obtain ⟨i,hi,e⟩:=h;exact ⟨i,Nat.lt_of_lt_of_le hi hk,e⟩
theorem yc {i j s:Nat} (h:i<j):i*s+s≤j*s:=by
 have:=Nat.mul_le_mul_right s (show i+1≤j from h);rw [Nat.add_mul,Nat.one_mul] at this;exact this
theorem bO.apart {f s m k a b:Nat} (ha:bO f s m a) (hb:bO f s k b) (hne:a≠b):a+s≤b∨b+s≤a:=by
 obtain ⟨i,_,rfl⟩:=ha;obtain ⟨j,_,rfl⟩:=hb;rcases Nat.lt_trichotomy i j with h|h|h
 · have:=yc (s:=s) h;omega
 · subst h;exact absurd rfl hne
 · have:=yc (s:=s) h;omega
theorem bO.jN {f s m k a b:Nat} (hs:16≤s) (ha:bO f s m a) (hb:bO f s k b) (hne:a≠b):g_ a b:=by
 have:=ha.apart hb hne;unfold g_;omega
theorem bO.fits {f s m n k a:Nat} (ha:bO f s m a) (hm:m≤n) (hf:f+n*s≤k):a+s≤k:=by
 obtain ⟨i,hi,rfl⟩:=ha;have:=yc (s:=s) (Nat.lt_of_lt_of_le hi hm);omega
theorem bO.pos {f s m a:Nat} (ha:bO f s m a) (hf:0<f):a≠0:=by obtain ⟨i,_,rfl⟩:=ha;omega
def news (f s made k:Nat):List Nat:=(List.range k).map fun j=>f+(made+j)*s
theorem Ec {f s made k a:Nat} (h:a∈news f s made k): ∃j,j<k∧a=f+(made+j)*s:=by
 obtain ⟨j,hj,rfl⟩:=List.mem_map.1 h;exact ⟨j,List.mem_range.1 hj,rfl⟩
theorem lW {f s made k a:Nat} (h:a∈news f s made k):bO f s (made+k) a:=by
 obtain ⟨j,hj,rfl⟩:=Ec h;exact ⟨made+j,by omega,rfl⟩
theorem oH (f s made k:Nat):(news f s made k).length=k:=by simp [news]
theorem rT {i j s:Nat} (hs:1≤s) (h:i*s=j*s):i=j:=Nat.eq_of_mul_eq_mul_right (by omega) h
theorem xY {f s made k a:Nat} (hs:1≤s) (h:a∈news f s made k): ¬bO f s made a:=by
 obtain ⟨j,hj,rfl⟩:=Ec h;rintro ⟨i,hi,e⟩;have:=rT hs (show (made+j)*s=i*s by omega);omega
theorem qH {f s made k:Nat} (hs:1≤s):(news f s made k).Nodup:=by
 unfold news;rw [List.Nodup,List.pairwise_map];refine List.Pairwise.imp ?_ (List.nodup_range (n:=k));intro a b hab e;exact hab (by have:=rT hs (show (made+a)*s=(made+b)*s by omega);omega)
structure PG where
 f:Nat
 s:Nat
 n:Nat
 made:Nat
 used:Nat
 F:List Nat
 G:List Nat
 cw:Nat
 ct:Nat
 ca:Nat
def adG (f s:Nat) (n:Int) (sz:Nat):Bool:=gJ f s n&&decide (0<f)&&decide (16≤s)&&decide (1≤n)&&decide (sO f s n≤sz)
def bR (f s n:Nat):PG:=⟨f,s,n,0,0, [], [],0,0,0⟩
structure aJ (L:List Nat) (S:PG):Prop where
 f0:0<S.f
 s16:16≤S.s
 n1:1≤S.n
 n2:S.n≤1024
 fit:S.f+S.n*S.s≤L.length
 big:L.length≤1048576
 made:S.made≤S.n
 cF:Chain L (S.F.headD 0) S.F
 cG:Chain L (S.G.headD 0) S.G
 FW: ∀a∈S.F,bO S.f S.s S.made a
 EB: ∀a∈S.G,bO S.f S.s S.made a
 nd:(S.F++S.G).Nodup
theorem aJ.may {L:List Nat} {S:PG} (h:aJ L S):gJ S.f S.s (S.n:Int)=true:=by
 have h1:=h.fit;have h2:=h.big;have h3:=h.s16;have h4:=h.n1;have h5:=h.n2;have h6:S.s≤S.n*S.s:=Nat.le_mul_of_pos_left _ h4;rw [jy];refine ⟨by omega,by omega,by omega,by omega,by omega, ?_⟩;rw [Int.toNat_natCast];omega
theorem aJ.new {L:List Nat} {f s n:Nat} (h1:0<f) (h2:16≤s) (h3:1≤n) (h4:n≤1024) (h5:f+n*s≤L.length) (h6:L.length≤1048576):aJ L (bR f s n):=
 ⟨h1,h2,h3,h4,h5,h6,Nat.zero_le _,rfl,rfl,(by intro a h;cases h),(by intro a h;cases h),List.nodup_nil⟩
def dN (S:PG) (a:Nat):Int:=if fF S.f S.s (S.n:Int) a=0 then (if gB S.f S.s (S.n:Int) a<S.made then 0 else 5) else fF S.f S.s (S.n:Int) a
theorem uH {L:List Nat} {S:PG} (h:aJ L S) {a:Nat} (ha:bO S.f S.s S.made a):dN S a=0:=by
 obtain ⟨i,hi,e⟩:=ha;have hm:=h.made;have:=index_hit h.may (i:=i) (by omega) e;unfold dN;rw [this.1,this.2,if_pos rfl,if_pos hi]
theorem Ay {L:List Nat} {S:PG} (h:aJ L S) {a:Nat} (ha:dN S a=0):bO S.f S.s S.made a:=by
 unfold dN at ha;split at ha
 · rename_i h0
   split at ha
   · rename_i h1
     unfold fF at h0;rw [if_pos h.may] at h0;split at h0
     · rename_i h2
       split at h0
       · rename_i h3
         have hn:gB S.f S.s (S.n:Int) a=(a-S.f)/S.s:=by unfold gB;rw [if_pos ⟨h.may,h2,h3⟩]
         rw [hn] at h1;refine ⟨_,h1, ?_⟩;have h4:=(su.1 h2).1;have h5:=Nat.div_add_mod (a-S.f) S.s;rw [h3,Nat.add_zero,Nat.mul_comm] at h5;omega
       · cases h0
     · cases h0
   · cases ha
 · rename_i h0;exact absurd ha h0
def vw (S:PG):Nat:=if S.F= []∧S.G= [] then min 4 (S.n-S.made) else 0
def aW (S:PG):PG:=if S.F≠ [] then S else if S.G≠ [] then {S with F:=S.G,G:= []} else {S with F:=news S.f S.s S.made (vw S),made:=S.made+vw S}
def b_ (S:PG):List Nat:=if S.F= []∧S.G= [] then news S.f S.s S.made (vw S) else []
def aP (S:PG):PG×Nat×Int:=match (aW S).F with
 | []=>(S,0,4)
 |a::t=>({aW S with F:=t,used:=S.used+1},a,0)
def bg (S:PG) (a:Nat):PG×Int:=if dN S a≠0 then (S,dN S a) else if S.used=0 then (S,5) else ({S with G:=a::S.G,used:=S.used-1},0)
def dI:PG→List Nat→PG×Int
 |S, []=>(S,0)
 |S,a::t=>if (bg S a).2=0 then dI (bg S a).1 t else bg S a
def PG.wrote (S:PG) (x:Nat):PG:={S with cw:=x,ct:=S.ct+1,ca:=S.ca+1}
def PG.asked (S:PG):PG:={S with ca:=S.ca+1}
def iB (S:PG) (P:List Nat):PG:={S.wrote 0 with G:=P++S.G,used:=S.used-P.length}
end Go.Proofs.YtpibbcnkgdmcbaaGreatDoor.aF
namespace Go.Proofs.YtpibbcnkgdmcbaaGreatDoor.aF
open aC aG ay
structure Wh (L:List Nat) (S:PG) (U P:List Nat):Prop where
 cP:Chain L S.cw P
 zP: ∀a∈P,bO S.f S.s S.made a
 zO: ∀a∈U,bO S.f S.s S.made a
 nd:(S.F++(S.G++(P++U))).Nodup
 add:S.made=S.F.length+S.G.length+S.used
 use:S.used=U.length+P.length
theorem Wh.new (L:List Nat) (f s n:Nat):Wh L (bR f s n) [] []:=⟨rfl,(by intro a h;cases h),(by intro a h;cases h),List.nodup_nil,rfl,rfl⟩
theorem Wh.perm {L:List Nat} {S:PG} {U V P:List Nat} (h:Wh L S U P) (e:U.Perm V):Wh L S V P:=
 ⟨h.cP,h.zP,fun a ha=>h.zO a (e.mem_iff.2 ha),(((e.append_left P).append_left S.G).append_left S.F).nodup_iff.1 h.nd,h.add,by rw [←e.length_eq];exact h.use⟩
theorem Wh.ask {L:List Nat} {S:PG} {U P:List Nat} (h:Wh L S U P):Wh L S.asked U P:=⟨h.cP,h.zP,h.zO,h.nd,h.add,h.use⟩
theorem aJ.ask {L:List Nat} {S:PG} (h:aJ L S):aJ L S.asked:=⟨h.f0,h.s16,h.n1,h.n2,h.fit,h.big,h.made,h.cF,h.cG,h.FW,h.EB,h.nd⟩
theorem aJ.wrote {L:List Nat} {S:PG} (h:aJ L S) (x:Nat):aJ L (S.wrote x):=⟨h.f0,h.s16,h.n1,h.n2,h.fit,h.big,h.made,h.cF,h.cG,h.FW,h.EB,h.nd⟩
theorem aJ.agree {L L' X:List Nat} {S:PG} (g:aJ L S) (e:Agree L L' X) (hX: ∀x∈X,bO S.f S.s S.made x∧x∉S.F∧x∉S.G):aJ L' S:=
 ⟨g.f0,g.s16,g.n1,g.n2,by rw [e.1];exact g.fit,by rw [e.1];exact g.big,g.made,
  Chain.agree e g.cF fun b hb x hx=>(hX x hx).1.jN g.s16 (g.FW b hb) (by rintro rfl;exact (hX _ hx).2.1 hb),
  Chain.agree e g.cG fun b hb x hx=>(hX x hx).1.jN g.s16 (g.EB b hb) (by rintro rfl;exact (hX _ hx).2.2 hb),g.FW,g.EB,g.nd⟩
theorem Wh.ne {L:List Nat} {S:PG} {U P:List Nat} (h:Wh L S U P):
 (∀a∈U,a∉S.F∧a∉S.G∧a∉P)∧(∀a∈P,a∉S.F∧a∉S.G):=by
 have h1:=List.nodup_append.1 h.nd;have h2:=List.nodup_append.1 h1.2.1;have h3:=List.nodup_append.1 h2.2.1;refine ⟨fun a ha=>⟨fun x=> ?_,fun x=> ?_,fun x=> ?_⟩,fun a ha=>⟨fun x=> ?_,fun x=> ?_⟩⟩
 · exact h1.2.2 a x a (List.mem_append_right _ (List.mem_append_right _ ha)) rfl
 · exact h2.2.2 a x a (List.mem_append_right _ ha) rfl
 · exact h3.2.2 a x a ha rfl
 · exact h1.2.2 a x a (List.mem_append_right _ (List.mem_append_left _ ha)) rfl
 · exact h2.2.2 a x a (List.mem_append_left _ ha) rfl
theorem Wh.fits {L:List Nat} {S:PG} {U P:List Nat} (g:aJ L S) (h:Wh L S U P) {a:Nat} (ha:a∈U):a≠0∧a+S.s≤L.length∧a+8≤L.length:=by
 have h1:=(h.zO a ha).fits g.made g.fit;have h2:=g.s16;exact ⟨(h.zO a ha).pos g.f0,h1,by omega⟩
theorem Wh.chain {L:List Nat} {S:PG} {U P:List Nat} (g:aJ L S) (h:Wh L S U P):bT L S.cw (S.n:Int)=some P∧P.length≤S.used∧S.used≤S.n:=by
 have h1:=h.use;have h2:=h.add;have h3:=g.made;have h4:=g.fit;have h5:=g.s16;have h6:=Nat.mul_le_mul_left S.n h5;refine ⟨?_,by omega,by omega⟩;unfold bT;rw [Int.toNat_natCast];exact rowF_chain h.cP (by omega)
theorem Wh.word {L:List Nat} {S:PG} {U P:List Nat} (g:aJ L S) (h:Wh L S U P):S.cw≤1048576∧(P= []↔S.cw=0):=by
 refine ⟨h.cP.sD g.big, ?_⟩;have hc:=h.cP;cases P with
 |nil=>exact ⟨fun _=>hc,fun _=>rfl⟩
 |cons a t=>
  obtain ⟨e,h0,_⟩:=hc;exact ⟨fun x=>(by cases x),fun x=>absurd (e▸x) h0⟩
theorem gN {S:PG} (h:S.F≠ []):aW S=S∧b_ S= []:=by
 unfold aW b_;rw [if_pos h,if_neg (fun x=>h x.1)];exact ⟨rfl,rfl⟩
theorem iq {S:PG} (h:S.F= []) (h2:S.G≠ []):aW S={S with F:=S.G,G:= []}∧b_ S= []:=by
 unfold aW b_;rw [if_neg (fun x=>x h),if_pos h2,if_neg (fun x=>h2 x.2)];exact ⟨rfl,rfl⟩
theorem fA {S:PG} (h:S.F= []) (h2:S.G= []):aW S={S with F:=news S.f S.s S.made (min 4 (S.n-S.made)),made:=S.made+min 4 (S.n-S.made)}∧b_ S=news S.f S.s S.made (min 4 (S.n-S.made)):=by
 unfold aW b_ vw;rw [if_neg (fun x=>x h),if_neg (fun x=>x h2),if_pos ⟨h,h2⟩,if_pos ⟨h,h2⟩];exact ⟨rfl,rfl⟩
theorem Wh.OX {L L':List Nat} {S:PG} {U P:List Nat} (g:aJ L S) (h:Wh L S U P) (e:Agree L L' (b_ S)):Wh L' (aW S) U P:=by
 by_cases h1:S.F= []
 · by_cases h2:S.G= []
   · obtain ⟨e1,e2⟩:=fA h1 h2
     rw [e2] at e;rw [e1];have hs:1≤S.s:=by have:=g.s16;omega
     have acR:S.made+min 4 (S.n-S.made)≤S.n:=by have:=g.made;omega
     refine ⟨?_,fun a ha=>(h.zP a ha).mono (by simp),fun a ha=>(h.zO a ha).mono (by simp), ?_, ?_,h.use⟩
     · refine Chain.agree e h.cP fun b hb x hx=> ?_
       exact (lW hx).jN g.s16 (h.zP b hb) (by rintro rfl;exact xY hs hx (h.zP _ hb))
     · have:=h.nd
       rw [h1,h2,List.nil_append,List.nil_append] at this;show (news S.f S.s S.made _++(S.G++(P++U))).Nodup;rw [h2,List.nil_append,List.nodup_append];refine ⟨qH hs,this,fun a ha b hb hab=> ?_⟩;subst hab;rcases List.mem_append.1 hb with hb|hb
       · exact xY hs ha (h.zP _ hb)
       · exact xY hs ha (h.zO _ hb)
     · have:=h.add
       rw [h1,h2] at this;show S.made+_=(news S.f S.s S.made _).length+S.G.length+S.used;rw [oH,h2];simp at this⊢;omega
   · obtain ⟨e1,e2⟩:=iq h1 h2
     rw [e2] at e;rw [e1];refine ⟨Chain.agree e h.cP (fun b _ x hx=>by cases hx),h.zP,h.zO, ?_, ?_,h.use⟩
     · have:=h.nd;rw [h1] at this;exact this
     · have:=h.add;rw [h1] at this;simp at this⊢;omega
 · obtain ⟨e1,e2⟩:=gN h1
   rw [e2] at e;rw [e1];exact ⟨Chain.agree e h.cP (fun b _ x hx=>by cases hx),h.zP,h.zO,h.nd,h.add,h.use⟩
theorem Wh.pop {L:List Nat} {S:PG} {U P:List Nat} (h:Wh L S U P) {a:Nat} {t:List Nat} (hF:S.F=a::t) (hin:bO S.f S.s S.made a):Wh L {S with F:=t,used:=S.used+1} (U++ [a]) P∧a∉U∧a∉P:=by
 have hnd:=h.nd;rw [hF,List.cons_append,List.nodup_cons] at hnd;have hn:a∉U∧a∉P:=⟨fun x=>hnd.1 (List.mem_append_right _ (List.mem_append_right _ (List.mem_append_right _ x))),fun x=>hnd.1 (List.mem_append_right _ (List.mem_append_right _ (List.mem_append_left _ x)))⟩;refine ⟨⟨h.cP,h.zP,fun b hb=> ?_, ?_, ?_, ?_⟩,hn⟩
 · rcases List.mem_append.1 hb with hb|hb
   · exact h.zO b hb
   · rw [List.mem_singleton.1 hb];exact hin
 · have e:(t++(S.G++(P++(U++ [a])))).Perm (a::(t++(S.G++(P++U)))):=by
    rw [show t++(S.G++(P++(U++ [a])))=(t++(S.G++(P++U)))++ [a] by simp [List.append_assoc]];exact List.perm_append_singleton a _
   exact e.nodup_iff.2 (List.nodup_cons.2 hnd)
 · have:=h.add;rw [hF] at this;simp only [List.length_cons] at this;show S.made=t.length+S.G.length+(S.used+1);omega
 · have:=h.use;simp only [List.length_append,List.length_singleton];omega
theorem kP {L:List Nat} {S:PG} (g:aJ L S):(∀a∈(aW S).F,bO S.f S.s (aW S).made a)∧(aW S).made≤S.n∧(aW S).f=S.f∧(aW S).s=S.s∧(aW S).n=S.n:=by
 by_cases h1:S.F= []
 · by_cases h2:S.G= []
   · rw [(fA h1 h2).1]
     exact ⟨fun a ha=>lW ha,by have:=g.made;show S.made+min 4 (S.n-S.made)≤S.n;omega,rfl,rfl,rfl⟩
   · rw [(iq h1 h2).1];exact ⟨g.EB,g.made,rfl,rfl,rfl⟩
 · rw [(gN h1).1];exact ⟨g.FW,g.made,rfl,rfl,rfl⟩
theorem Wh.alloc {L L':List Nat} {S S':PG} {U P:List Nat} {a:Nat} {e:Int} (g:aJ L S) (h:Wh L S U P) (hA:aP S=(S',a,e)) (hL:Agree L L' (b_ S)):
 (e=0∧Wh L' S' (U++ [a]) P∧a∉U∧a∉P∧(∃t,(aW S).F=a::t∧S'={aW S with F:=t,used:=S.used+1}))∨(e=4∧a=0∧S'=S∧S.F= []∧S.G= []∧S.made=S.n∧b_ S= []):=by
 unfold aP at hA;have hw:=h.OX g hL;have hg:=kP g;have hu:(aW S).used=S.used:=by unfold aW;split<;>first|rfl|(split<;>rfl)
 cases hF:(aW S).F with
 |nil=>
  rw [hF] at hA;simp only [Prod.mk.injEq] at hA;obtain ⟨rfl,rfl,rfl⟩:=hA;refine Or.inr ⟨rfl,rfl,rfl, ?_⟩;by_cases h1:S.F= []
  · by_cases h2:S.G= []
    · rw [(fA h1 h2).1] at hF
      have:(news S.f S.s S.made (min 4 (S.n-S.made))).length=0:=by
       have hF':news S.f S.s S.made (min 4 (S.n-S.made))= []:=hF;rw [hF'];rfl
      rw [oH] at this;refine ⟨h1,h2,by have:=g.made;omega, ?_⟩;rw [(fA h1 h2).2];exact hF
    · rw [(iq h1 h2).1] at hF;exact absurd hF h2
  · rw [(gN h1).1] at hF;exact absurd hF h1
 |cons x t=>
  rw [hF] at hA;simp only [Prod.mk.injEq] at hA;obtain ⟨rfl,rfl,rfl⟩:=hA;have hb:bO (aW S).f (aW S).s (aW S).made x:=by rw [hg.2.2.1,hg.2.2.2.1];exact hg.1 x (by rw [hF];exact List.mem_cons_self ..)
  obtain ⟨p1,p2,p3⟩:=hw.pop hF hb;rw [hu] at p1;exact Or.inl ⟨rfl,p1,p2,p3,t,rfl,rfl⟩
theorem Wh.free {L L':List Nat} {S:PG} {U P:List Nat} {a:Nat} (g:aJ L S) (h:Wh L S (a::U) P) (hL:Agree L L' [a]):bg S a=({S with G:=a::S.G,used:=S.used-1},0)∧Wh L' {S with G:=a::S.G,used:=S.used-1} U P:=by
 have hb:=h.zO a (List.mem_cons_self ..);have hu:=h.use;simp only [List.length_cons] at hu;have hne:=h.ne.1 a (List.mem_cons_self ..);refine ⟨?_, ?_,h.zP,fun x hx=>h.zO x (List.mem_cons_of_mem _ hx), ?_, ?_, ?_⟩
 · unfold bg;rw [uH g hb,if_neg (fun x=>x rfl),if_neg (by omega)]
 · exact Chain.agree hL h.cP fun b hb2 x hx=>by
    rw [List.mem_singleton.1 hx];exact hb.jN g.s16 (h.zP b hb2) (by rintro rfl;exact hne.2.2 hb2)
 · have e:(S.F++(S.G++(P++a::U))).Perm (S.F++(a::S.G++(P++U))):=by
    refine List.Perm.append_left _ ?_;rw [←List.append_assoc,List.cons_append,←List.append_assoc];exact List.perm_middle
   exact e.nodup_iff.1 h.nd
 · have:=h.add;show S.made=S.F.length+(a::S.G).length+(S.used-1);simp only [List.length_cons];omega
 · show S.used-1=U.length+P.length;omega
theorem Wh.post {L:List Nat} {S:PG} {U P:List Nat} {a:Nat} (g:aJ L S) (h:Wh L S (a::U) P):Wh (iC L a S.cw) (S.wrote a) U (a::P):=by
 have hb:=h.zO a (List.mem_cons_self ..);have hne:=h.ne.1 a (List.mem_cons_self ..);have hf:=h.fits g (List.mem_cons_self ..);have hw:=(h.word g).1;refine ⟨?_,fun x hx=> ?_,fun x hx=>h.zO x (List.mem_cons_of_mem _ hx), ?_,h.add, ?_⟩
 · exact Chain.push h.cP hf.1 hf.2.2 (fun b hb2=>hb.jN g.s16 (h.zP b hb2) (by rintro rfl;exact hne.2.2 hb2)) (by omega)
 · rcases List.mem_cons.1 hx with rfl|hx
   · exact hb
   · exact h.zP x hx
 · have e:(S.F++(S.G++(P++a::U))).Perm (S.F++(S.G++(a::P++U))):=by
    refine List.Perm.append_left _ (List.Perm.append_left _ ?_);rw [List.cons_append];exact List.perm_middle
   exact e.nodup_iff.1 h.nd
 · have:=h.use;simp only [List.length_cons] at this⊢;show S.used=_;omega
theorem Wh.late {L L':List Nat} {S:PG} {U P:List Nat} {a:Nat} (g:aJ L S) (h:Wh L S U P) (ha:a∈U) (hL:Agree L L' [a]):Wh L' S.asked U P:=by
 have hb:=h.zO a ha;have hne:=h.ne.1 a ha;refine ⟨?_,h.zP,h.zO,h.nd,h.add,h.use⟩;exact Chain.agree hL h.cP fun b hb2 x hx=>by
  rw [List.mem_singleton.1 hx];exact hb.jN g.s16 (h.zP b hb2) (by rintro rfl;exact hne.2.2 hb2)
theorem Wh.gather {L L':List Nat} {S:PG} {U P:List Nat} (h:Wh L S U P):Wh L' (iB S P) U []:=by
 have hu:=h.use;refine ⟨rfl,(by intro a h;cases h),h.zO, ?_, ?_, ?_⟩
 · have e:(S.F++(S.G++(P++U))).Perm (S.F++((P++S.G)++([]++U))):=by
    refine List.Perm.append_left _ ?_;rw [←List.append_assoc,List.nil_append];exact List.Perm.append_right _ List.perm_append_comm
   exact e.nodup_iff.1 h.nd
 · have:=h.add;show S.made=S.F.length+(P++S.G).length+(S.used-P.length);rw [List.length_append];omega
 · show S.used-P.length=U.length+([]:List Nat).length;simp only [List.length_nil];omega
end Go.Proofs.YtpibbcnkgdmcbaaGreatDoor.aF
namespace Go.Proofs.YtpibbcnkgdmcbaaGreatDoor.aF
open aC aG ay
theorem um {f s m k:Nat} (hk:0<k):news f s m k=(f+m*s)::news f s (m+1) (k-1):=by
 obtain ⟨j,rfl⟩: ∃j,k=j+1:=⟨k-1,by omega⟩;unfold news;rw [List.range_succ_eq_map,List.map_cons,List.map_map]
 congr 1
 refine List.map_congr_left fun x _=> ?_;show f+(m+(x+1))*s=f+(m+1+x)*s;rw [show m+(x+1)=m+1+x by omega]
theorem Ai (f s m:Nat):news f s m 0= []:=rfl
def mk (i n:Nat):Nat:=min n (4*((i+3)/4))
def fresh (f s n i:Nat):PG:=⟨f,s,n,mk i n,i,news f s i (mk i n-i), [],0,0,0⟩
theorem yO (f s n:Nat):fresh f s n 0=bR f s n:=by
 have:mk 0 n=0:=by unfold mk;omega
 unfold fresh bR;rw [this];rfl
theorem EP {f s n i:Nat} (h:i<n):aP (fresh f s n i)=(fresh f s n (i+1),f+i*s,0):=by
 by_cases hm:i<mk i n
 · have hF:(fresh f s n i).F=(f+i*s)::news f s (i+1) (mk i n-i-1):=um (by omega)
   have hr:=(gN (S:=fresh f s n i) (by rw [hF];simp)).1;unfold aP;rw [hr,hF];have e:mk (i+1) n=mk i n:=by unfold mk at hm⊢;omega
   have e2:mk i n-i-1=mk (i+1) n-(i+1):=by omega
   show (({fresh f s n i with F:=_,used:=_}:PG),_,_)=_;unfold fresh;simp only [Prod.mk.injEq,and_true];rw [e,e2,e]
 · have hz:mk i n-i=0:=by omega
   have hF:(fresh f s n i).F= []:=by show news f s i (mk i n-i)= [];rw [hz];rfl
   have hmi:mk i n=i:=by unfold mk at hm⊢;omega
   have hr:=(fA (S:=fresh f s n i) hF rfl).1;have hk:0<min 4 (n-i):=by omega
   have hF2:(aW (fresh f s n i)).F=(f+i*s)::news f s (i+1) (min 4 (n-i)-1):=by
    rw [hr];show news f s (mk i n) (min 4 (n-mk i n))=_;rw [hmi];exact um hk
   unfold aP;rw [hF2,hr];have e:mk (i+1) n=mk i n+min 4 (n-mk i n):=by rw [hmi];unfold mk at hm hmi⊢;omega
   have e2:min 4 (n-i)-1=mk (i+1) n-(i+1):=by rw [e,hmi];omega
   unfold fresh;simp only [Prod.mk.injEq,and_true];rw [e2,←e]
theorem qL (f s n:Nat):aP (fresh f s n n)=(fresh f s n n,0,4)∧(fresh f s n n).made=n∧(fresh f s n n).F= []:=by
 have hm:mk n n=n:=by unfold mk;omega
 have hF:(fresh f s n n).F= []:=by show news f s n (mk n n-n)= [];rw [hm,Nat.sub_self];rfl
 refine ⟨?_,hm,hF⟩;have hr:=(fA (S:=fresh f s n n) hF rfl).1;have hF2:(aW (fresh f s n n)).F= []:=by
  rw [hr];show news f s (mk n n) (min 4 (n-mk n n))=_;rw [hm,Nat.sub_self];rfl
 unfold aP;rw [hF2]
def freed (S:PG) (l:List Nat):PG:={S with G:=l.reverse++S.G,used:=S.used-l.length}
def again (S:PG) (R:List Nat) (k:Nat):PG:=if k=0 then {S with F:= [],G:=R} else {S with F:=R.drop k,G:= [],used:=S.used+k}
end Go.Proofs.YtpibbcnkgdmcbaaGreatDoor.aF
