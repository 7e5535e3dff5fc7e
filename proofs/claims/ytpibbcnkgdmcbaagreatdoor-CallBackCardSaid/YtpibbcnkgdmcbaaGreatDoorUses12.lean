/- Uses12: texts of layers below, joined (HeapMath HeapUse HeapFun HeapUse2 HeapUse3). -/
import Derived.Test.YtpibbcnkgdmcbaaGreatDoorSegm12
import Derived.Test.YtpibbcnkgdmcbaaGreatDoorQueueMath
import Derived.Test.YtpibbcnkgdmcbaaGreatDoorArenaMath
set_option linter.unusedVariables false
namespace Go.Proofs.YtpibbcnkgdmcbaaGreatDoor.aD
open aC aG aF au aI aB
def iH (pl lo:Nat):Int:=((pl*16+lo:Nat):Int)
def keyOf (X:SG) (o:bY):Int:=iH X.pl o.lo
def qi (c:Int):Nat:=if c<0 then 12 else c.toNat
structure HS where
 B:List SG
 Q:Nat→QR
def h0:HS:=⟨[],fun _=>q0⟩
def HS.mQ (H:HS) (c:Int) (q:QR):HS:={H with Q:=fun i=>if i=qi c then q else H.Q i}
def HS.eu (H:HS) (X:SG):HS:={H with B:=H.B.map fun Y=>if Y.pl=X.pl then X else Y}
def HS.IJ (H:HS) (pl:Nat):HS:={H with B:=H.B.filter fun Y=>decide (Y.pl≠pl)}
def Jh (B:List SG) (i:Nat) (k:Int):Prop:= ∃X∈B,∃o∈X.L,qi o.cls=i∧k=keyOf X o
structure GoodS (X:SG):Prop where
 g:bX X
 pl:X.pl≤63
 pps:(X.L.map fun o=>o.pp).Nodup
structure aO (H:HS):Prop where
 seg: ∀X∈H.B,GoodS X
 jK:(H.B.map fun X=>X.pl).Nodup
 q: ∀i,bZ (H.Q i)
 mem: ∀i k,k∈(H.Q i).all↔Jh H.B i k
section
variable {S:QR} {x k:Int}
theorem mem_push:k∈(bK S [x]).1.all↔k∈S.all∨k=x:=by
 unfold bK;split
 · rename_i h;exact ⟨.inl,fun e=>e.elim id fun e=>by rw [e];exact h⟩
 · show k∈(S.R++ [x])++S.F↔_
   unfold QR.all;simp only [List.mem_append,List.mem_singleton];constructor
   · rintro ((h|h)|h)
     · exact .inl (.inl h)
     · exact .inr h
     · exact .inl (.inr h)
   · rintro ((h|h)|h)
     · exact .inl (.inl h)
     · exact .inr h
     · exact .inl (.inr h)
theorem mX:k∈(aX S [x]).1.all↔k∈S.all∧k≠x:=by
 unfold aX;split
 · show k∈QR.all ⟨out S.R x,out S.F x⟩↔_
   rw [dx,dx];show k∈out S.R x∨k∈out S.F x↔_;rw [gH,gH];constructor
   · rintro (h|h)
     · exact ⟨.inl h.1,h.2⟩
     · exact ⟨.inr h.1,h.2⟩
   · rintro ⟨h|h,e⟩
     · exact .inl ⟨h,e⟩
     · exact .inr ⟨h,e⟩
 · rename_i h;exact ⟨fun hk=>⟨hk,fun e=>h (by rw [←e];exact hk)⟩,fun hk=>hk.1⟩
theorem PX:k∈(eO S x).1.all↔k∈S.all:=by
 unfold eO;split
 · rename_i h
   rw [dx,dx];show k∈out S.R x∨k∈S.F++ [x]↔_;rw [gH,List.mem_append,List.mem_singleton];constructor
   · rintro (h1|h1|h1)
     · exact .inl h1.1
     · exact .inr h1
     · exact .inl (by rw [h1];exact h)
   · rintro (h1|h1)
     · by_cases e:k=x
       · exact .inr (.inr e)
       · exact .inl ⟨h1,e⟩
     · exact .inr (.inl h1)
 · exact Iff.rfl
theorem PW:k∈(dK S x).1.all↔k∈S.all:=by
 unfold dK;split
 · rename_i h
   rw [dx,dx];show k∈S.R++ [x]∨k∈out S.F x↔_;rw [gH,List.mem_append,List.mem_singleton];constructor
   · rintro ((h1|h1)|h1)
     · exact .inl h1
     · exact .inr (by rw [h1];exact h)
     · exact .inr h1.1
   · rintro (h1|h1)
     · exact .inl (.inl h1)
     · by_cases e:k=x
       · exact .inl (.inr e)
       · exact .inr ⟨h1,e⟩
 · exact Iff.rfl
end
theorem iI {l:List SG} (h:(l.map fun X=>X.pl).Nodup) {X Y:SG} (hX:X∈l) (hY:Y∈l) (e:X.pl=Y.pl):X=Y:=by
 induction l with
 |nil=>cases hX
 |cons Z t ih=>
  rw [List.map_cons,List.nodup_cons] at h;rcases List.mem_cons.1 hX with rfl|hX2
  · rcases List.mem_cons.1 hY with rfl|hY2
    · rfl
    · exact absurd (List.mem_map.2 ⟨Y,hY2,e.symm⟩) h.1
  · rcases List.mem_cons.1 hY with rfl|hY2
    · exact absurd (List.mem_map.2 ⟨X,hX2,e⟩) h.1
    · exact ih h.2 hX2 hY2
theorem rX {X:SG} (g:bX X) {o:bY} (h:o∈X.L):1≤o.lo∧o.lo≤15:=by have:=g.fit o h;omega
theorem key_inj {p q a b:Nat} (ha:a≤15) (hb:b≤15) (h:iH p a=iH q b):p=q∧a=b:=by
 unfold iH at h;have:=Int.ofNat.inj h;omega
theorem wP {H:HS} (g:aO H) {X Y:SG} {o u:bY} (hX:X∈H.B) (hY:Y∈H.B) (ho:o∈X.L) (hu:u∈Y.L) (e:keyOf X o=keyOf Y u):X=Y∧o=u:=by
 have h1:=rX (g.seg X hX).g ho;have h2:=rX (g.seg Y hY).g hu;obtain ⟨e1,e2⟩:=key_inj h1.2 h2.2 e;have:=iI g.jK hX hY e1;subst this;exact ⟨rfl,(g.seg X hX).g.one ho hu e2⟩
theorem oK {X:SG} {o:bY} (g:GoodS X) (h:o∈X.L):0≤keyOf X o∧keyOf X o≤1023:=by
 have h1:=rX g.g h;have h2:=g.pl;unfold keyOf iH;omega
def dO (H:HS) (a:Nat):Option (SG×bY):=H.B.findSome? fun X=>(bJ X a).map fun o=>(X,o)
theorem gW {X:SG} {a:Nat} {o:bY} (h:bJ X a=some o):o∈X.L∧X.pl*16384≤a∧a<X.pl*16384+16384∧o.lo≤(a-X.pl*16384)/1024∧(a-X.pl*16384)/1024<o.lo+o.wd:=by
 unfold bJ at h;split at h
 · cases h
 · rename_i hn
   obtain ⟨h1,h2,h3⟩:=kD h;exact ⟨h1,by omega,by omega,h2,h3⟩
theorem qP {H:HS} {a:Nat} {X:SG} {o:bY} (h:dO H a=some (X,o)):X∈H.B∧bJ X a=some o:=by
 obtain ⟨Y,hY,e⟩:=List.exists_of_findSome?_eq_some h;obtain ⟨u,hu,e⟩:=Option.map_eq_some_iff.1 e;cases e;exact ⟨hY,hu⟩
theorem EU {H:HS} (g:aO H) {a:Nat} {X:SG} {o:bY} (hX:X∈H.B) (h:bJ X a=some o):dO H a=some (X,o):=by
 cases he:dO H a with
 |none=>
  have:=List.findSome?_eq_none_iff.1 he X hX;rw [h] at this;cases this
 |some z=>
  obtain ⟨Y,u⟩:=z;obtain ⟨hY,hu⟩:=qP he;have h1:=gW h;have h2:=gW hu;have e:Y=X:=iI g.jK hY hX (by omega);subst e;rw [h] at hu;cases hu;rfl
theorem yS {X:SG} (g:bX X) {o:bY} (ho:o∈X.L) {a:Nat} (h1:aL X.pl o.lo≤a) (h2:a<aL X.pl (o.lo+o.wd)):bJ X a=some o:=by
 have hf:=g.fit o ho;unfold aL at h1 h2;unfold bJ;rw [if_neg (by omega)];exact g.oN ho (by omega) (by omega)
theorem AU {H:HS} (g:aO H) {X:SG} {o:bY} (hX:X∈H.B) (ho:o∈X.L):dO H ((keyOf X o).toNat*1024)=some (X,o):=by
 have hf:=(g.seg X hX).g.fit o ho;refine EU g hX (yS (g.seg X hX).g ho ?_ ?_)
 · unfold keyOf iH aL;rw [Int.toNat_natCast];omega
 · unfold keyOf iH aL;rw [Int.toNat_natCast];omega
theorem uO {H:HS} (g:aO H) {X:SG} {o:bY} (hX:X∈H.B) (ho:o∈X.L) {a:Nat} (ha:bO o.P.f o.P.s o.P.n a):dO H a=some (X,o):=by
 have hg:=(g.seg X hX).g;obtain ⟨e1,e2⟩:=hg.within ho;have hb:=ha.fits (Nat.le_refl _) e2;have hs:=((hg.cls o ho).size (hg.fit o ho).2.1).1;obtain ⟨i,_,e⟩:=ha;exact EU g hX (yS hg ho (by omega) (by omega))
section
variable {H:HS} {X X':SG}
theorem bW {Y:SG}:Y∈(H.eu X').B↔(Y=X'∧ ∃Z∈H.B,Z.pl=X'.pl)∨(Y∈H.B∧Y.pl≠X'.pl):=by
 show Y∈H.B.map _↔_;rw [List.mem_map];constructor
 · rintro ⟨Z,hZ,rfl⟩
   by_cases e:Z.pl=X'.pl
   · rw [if_pos e];exact .inl ⟨rfl,Z,hZ,e⟩
   · rw [if_neg e];exact .inr ⟨hZ,e⟩
 · rintro (⟨rfl,Z,hZ,e⟩|⟨hY,e⟩)
   · exact ⟨Z,hZ,if_pos e⟩
   · exact ⟨Y,hY,if_neg e⟩
theorem Pm:(H.eu X').B.map (fun X=>X.pl)=H.B.map fun X=>X.pl:=by
 show (H.B.map _).map _=_;rw [List.map_map];refine List.map_congr_left fun Y _=> ?_;show (if Y.pl=X'.pl then X' else Y).pl=Y.pl;split
 · rename_i e;exact e.symm
 · rfl
theorem jF {Y:SG} {pl:Nat}:Y∈(H.IJ pl).B↔Y∈H.B∧Y.pl≠pl:=by
 show Y∈H.B.filter _↔_;rw [List.mem_filter];simp
theorem LA (g:aO H) (hX:X∈H.B) (e:X'.pl=X.pl) {i:Nat} {k:Int}:Jh (H.eu X').B i k↔(∃o∈X'.L,qi o.cls=i∧k=keyOf X' o)∨(Jh H.B i k∧ ¬ ∃o∈X.L,qi o.cls=i∧k=keyOf X o):=by
 constructor
 · rintro ⟨Y,hY,o,ho,h1,h2⟩
   rcases bW.1 hY with ⟨rfl,_⟩|⟨hY,hne⟩
   · exact .inl ⟨o,ho,h1,h2⟩
   · refine .inr ⟨⟨Y,hY,o,ho,h1,h2⟩, ?_⟩
     rintro ⟨u,hu,_,h3⟩;have:=(wP g hY hX ho hu (h2.symm.trans h3)).1;exact hne (by rw [this,e])
 · rintro (⟨o,ho,h1,h2⟩|⟨⟨Y,hY,o,ho,h1,h2⟩,h3⟩)
   · exact ⟨X',bW.2 (.inl ⟨rfl,X,hX,e.symm⟩),o,ho,h1,h2⟩
   · by_cases e2:Y.pl=X'.pl
     · have:=iI g.jK hY hX (e2.trans e)
       subst this;exact absurd ⟨o,ho,h1,h2⟩ h3
     · exact ⟨Y,bW.2 (.inr ⟨hY,e2⟩),o,ho,h1,h2⟩
theorem aO.turn {H':HS} (g:aO H) (hX:X∈H.B) (e:X'.pl=X.pl) (g':GoodS X') (hB:H'.B=(H.eu X').B) (hq: ∀i,bZ (H'.Q i))
 (hm: ∀i k,k∈(H'.Q i).all↔(∃o∈X'.L,qi o.cls=i∧k=keyOf X' o)∨(k∈(H.Q i).all∧ ¬ ∃o∈X.L,qi o.cls=i∧k=keyOf X o)):aO H':=by
 refine ⟨fun Y hY=> ?_, ?_,hq,fun i k=> ?_⟩
 · rw [hB] at hY
   rcases bW.1 hY with ⟨rfl,_⟩|⟨hY,_⟩
   · exact g'
   · exact g.seg Y hY
 · rw [hB,Pm];exact g.jK
 · rw [hm,hB,LA g hX e,g.mem]
theorem aO.rows {H':HS} (g:aO H) (hB:H'.B=H.B) (hq: ∀i,bZ (H'.Q i)) (hm: ∀i k,k∈(H'.Q i).all↔k∈(H.Q i).all):aO H':=
 ⟨fun Y hY=>g.seg Y (by rw [←hB];exact hY),by rw [hB];exact g.jK,hq,fun i k=>by rw [hm,hB,g.mem]⟩
theorem aO.fill (g:aO H) (c:Int) (k:Int):aO (H.mQ c (eO (H.Q (qi c)) k).1):=g.rows rfl (fun i=>by
 show bZ (if i=qi c then _ else H.Q i);split
 · exact (g.q _).fill k
 · exact g.q i) fun i x=>by
 show x∈(if i=qi c then (eO (H.Q (qi c)) k).1 else H.Q i).all↔_;split
 · rename_i e;rw [PX,e]
 · exact Iff.rfl
theorem aO.wake (g:aO H) (c:Int) (k:Int):aO (H.mQ c (dK (H.Q (qi c)) k).1):=g.rows rfl (fun i=>by
 show bZ (if i=qi c then _ else H.Q i);split
 · exact (g.q _).wake k
 · exact g.q i) fun i x=>by
 show x∈(if i=qi c then (dK (H.Q (qi c)) k).1 else H.Q i).all↔_;split
 · rename_i e;rw [PW,e]
 · exact Iff.rfl
theorem GoodS.put (g:GoodS X) {o:bY} (ho:o∈X.L) {S:PG} (hs:S.f=o.P.f∧S.s=o.P.s∧S.n=o.P.n):GoodS (X.put o.pp S) where
 g:=g.g.put fun x hx e=>by
  have:x=o:=by
   have hn:=g.pps
   revert hx ho hn
   generalize X.L=l
   intro ho hx hn
   induction l with
   |nil=>cases ho
   |cons y t ih=>
    rw [List.map_cons,List.nodup_cons] at hn;rcases List.mem_cons.1 ho with rfl|ho2
    · rcases List.mem_cons.1 hx with rfl|hx2
      · rfl
      · exact absurd (List.mem_map.2 ⟨x,hx2,e⟩) hn.1
    · rcases List.mem_cons.1 hx with rfl|hx2
      · exact absurd (List.mem_map.2 ⟨o,ho2,e.symm⟩) hn.1
      · exact ih ho2 hx2 hn.2
  rw [this];exact hs
 pl:=g.pl
 pps:=by
  show ((X.L.map _).map _).Nodup;rw [List.map_map];have e:X.L.map ((fun o=>o.pp)∘fun x=>if x.pp=o.pp then {x with P:=S} else x)=X.L.map fun o=>o.pp:=List.map_congr_left fun x _=>(dL x o.pp S).2.2.2.1;rw [e];exact g.pps
theorem Li {pp:Nat} {S:PG} {i:Nat} {k:Int}:(∃o∈(X.put pp S).L,qi o.cls=i∧k=keyOf (X.put pp S) o)↔ ∃o∈X.L,qi o.cls=i∧k=keyOf X o:=by
 constructor
 · rintro ⟨x,hx,h1,h2⟩
   obtain ⟨o,ho,rfl⟩:=put_mem.1 hx;obtain ⟨e1,e2,e3,e4,e5⟩:=dL o pp S;rw [e5] at h1;unfold keyOf at h2;rw [e1] at h2;exact ⟨o,ho,h1,h2⟩
 · rintro ⟨o,ho,h1,h2⟩
   obtain ⟨e1,e2,e3,e4,e5⟩:=dL o pp S;refine ⟨_,put_mem.2 ⟨o,ho,rfl⟩,by rw [e5];exact h1, ?_⟩;unfold keyOf;rw [e1];exact h2
theorem aO.put (g:aO H) (hX:X∈H.B) {o:bY} (ho:o∈X.L) {S:PG} (hs:S.f=o.P.f∧S.s=o.P.s∧S.n=o.P.n):aO (H.eu (X.put o.pp S)):=
 g.turn hX (X':=X.put o.pp S) rfl ((g.seg X hX).put ho hs) rfl g.q fun i k=>by
  rw [Li];show k∈(H.Q i).all↔_;constructor
  · intro h
    by_cases h2: ∃o∈X.L,qi o.cls=i∧k=keyOf X o
    · exact .inl h2
    · exact .inr ⟨h,h2⟩
  · rintro (h|h)
    · exact (g.mem i k).2 ⟨X,hX,h⟩
    · exact h.1
theorem aO.add (g:aO H) (hX:X∈H.B) {a wd n s:Nat} {c:Int} {op pp:Nat} (hk:1≤wd) (h:aj.bI X.K a wd false) (hc:nH ⟨op,pp,c,a,wd,bR (aL X.pl a) s n⟩) (hp: ∀o∈X.L,o.pp≠pp):
 aO ((H.eu (X.add op pp c a wd n s)).mQ c (bK (H.Q (qi c)) [iH X.pl a]).1)∧iH X.pl a∉(H.Q (qi c)).all:=by
 have gS:=g.seg X hX;have hfree:=gS.g.free hk h;have hlo: ∀x∈X.L,x.lo≠a:=fun x hx=>by have:=hfree.2.2 x hx;have:=(gS.g.fit x hx).2.1;omega
 have hg:=gS.g.add hk h hc;have hnk:iH X.pl a∉(H.Q (qi c)).all:=fun hin=>by
  obtain ⟨Y,hY,o,ho,_,e⟩:=(g.mem _ _).1 hin;have h1:=rX (g.seg Y hY).g ho;obtain ⟨e1,e2⟩:=key_inj (show a≤15 by omega) h1.2 e;have:=iI g.jK hX hY e1;subst this;exact hlo o ho e2.symm
 have hmem: ∀x,x∈(X.add op pp c a wd n s).L↔x=⟨op,pp,c,a,wd,bR (aL X.pl a) s n⟩∨x∈X.L:=fun x=>by
  show x∈ni X.L _↔_;rw [fZ];exact ⟨fun h=>h.imp id fun h=>h.1,fun h=>h.imp id fun h=>⟨h,hlo x h⟩⟩
 refine ⟨g.turn hX (X':=X.add op pp c a wd n s) rfl ⟨hg,gS.pl, ?_⟩ rfl (fun i=> ?_) (fun i k=> ?_),hnk⟩
 · show ((ni X.L _).map _).Nodup
   have hperm:(ni X.L ⟨op,pp,c,a,wd,bR (aL X.pl a) s n⟩).Perm (⟨op,pp,c,a,wd,bR (aL X.pl a) s n⟩::X.L):=by
    unfold ni;refine List.perm_middle.trans (List.Perm.cons _ ?_);have e:X.L.filter (fun x=>decide (a<x.lo))=X.L.filter (fun x=> !decide (x.lo<a)):=by
     apply List.filter_congr;intro x hx;have:=hlo x hx;by_cases h1:x.lo<a
     · simp [h1];omega
     · simp [h1];omega
    show (X.L.filter (fun x=>decide (x.lo<a))++X.L.filter (fun x=>decide (a<x.lo))).Perm X.L;rw [e];exact List.filter_append_perm _ _
   refine ((hperm.map _).nodup_iff).2 ?_;rw [List.map_cons,List.nodup_cons];refine ⟨fun hin=> ?_,gS.pps⟩;obtain ⟨o,ho,e⟩:=List.mem_map.1 hin;exact hp o ho e
 · show bZ (if i=qi c then _ else H.Q i)
   split
   · exact (g.q _).push _
   · exact g.q i
 · show k∈(if i=qi c then (bK (H.Q (qi c)) [iH X.pl a]).1 else H.Q i).all↔_
   have hP:(∃o∈(X.add op pp c a wd n s).L,qi o.cls=i∧k=keyOf (X.add op pp c a wd n s) o)↔(i=qi c∧k=iH X.pl a)∨ ∃o∈X.L,qi o.cls=i∧k=keyOf X o:=by
    constructor
    · rintro ⟨o,ho,h1,h2⟩
      rcases (hmem o).1 ho with rfl|ho
      · exact .inl ⟨h1.symm,h2⟩
      · exact .inr ⟨o,ho,h1,h2⟩
    · rintro (⟨rfl,h2⟩|⟨o,ho,h1,h2⟩)
      · exact ⟨_,(hmem _).2 (.inl rfl),rfl,h2⟩
      · exact ⟨o,(hmem o).2 (.inr ho),h1,h2⟩
   have hall: ∀i,k∈(H.Q i).all↔(∃o∈X.L,qi o.cls=i∧k=keyOf X o)∨(k∈(H.Q i).all∧ ¬ ∃o∈X.L,qi o.cls=i∧k=keyOf X o):=fun i=>by
    constructor
    · intro h
      by_cases h2: ∃o∈X.L,qi o.cls=i∧k=keyOf X o
      · exact .inl h2
      · exact .inr ⟨h,h2⟩
    · rintro (h|h)
      · exact (g.mem i k).2 ⟨X,hX,h⟩
      · exact h.1
   rw [hP];split
   · rename_i e
     rw [mem_push,←e];constructor
     · rintro (h|h)
       · rcases (hall i).1 h with h|h
         · exact .inl (.inr h)
         · exact .inr h
       · exact .inl (.inl ⟨rfl,h⟩)
     · rintro ((h|h)|h)
       · exact .inr h.2
       · exact .inl ((hall i).2 (.inl h))
       · exact .inl h.1
   · rename_i e
     constructor
     · intro h
       rcases (hall i).1 h with h|h
       · exact .inl (.inr h)
       · exact .inr h
     · rintro ((h|h)|h)
       · exact absurd h.1 e
       · exact (hall i).2 (.inl h)
       · exact h.1
theorem aO.cut (g:aO H) (hX:X∈H.B) {o:bY} (ho:o∈X.L):aO ((H.eu (X.cut o)).mQ o.cls (aX (H.Q (qi o.cls)) [keyOf X o]).1):=by
 have gS:=g.seg X hX;have hmem: ∀x,x∈(X.cut o).L↔(x∈X.L∧x.lo≠o.lo):=fun x=>by
  show x∈X.L.filter _↔_;rw [List.mem_filter];simp
 refine g.turn hX (X':=X.cut o) rfl ⟨gS.g.cut ho,gS.pl,gS.pps.sublist (List.filter_sublist.map _)⟩ rfl (fun i=> ?_) fun i k=> ?_
 · show bZ (if i=qi o.cls then _ else H.Q i)
   split
   · exact (g.q _).remove _
   · exact g.q i
 · show k∈(if i=qi o.cls then (aX (H.Q (qi o.cls)) [keyOf X o]).1 else H.Q i).all↔_
   have hP:(∃x∈(X.cut o).L,qi x.cls=i∧k=keyOf (X.cut o) x)↔(∃x∈X.L,qi x.cls=i∧k=keyOf X x)∧k≠keyOf X o:=by
    constructor
    · rintro ⟨x,hx,h1,h2⟩
      obtain ⟨hx,hne⟩:=(hmem x).1 hx;refine ⟨⟨x,hx,h1,h2⟩,fun e=>hne ?_⟩;exact (key_inj (rX gS.g hx).2 (rX gS.g ho).2 (h2.symm.trans e)).2
    · rintro ⟨⟨x,hx,h1,h2⟩,hne⟩
      exact ⟨x,(hmem x).2 ⟨hx,fun e=>hne (by rw [h2];unfold keyOf;rw [e])⟩,h1,h2⟩
   have hin: ∀i,(∃x∈X.L,qi x.cls=i∧k=keyOf X x)→k∈(H.Q i).all:=fun i h=>(g.mem i k).2 ⟨X,hX,h⟩;rw [hP];split
   · rename_i e
     rw [mX,←e];constructor
     · rintro ⟨h,hne⟩
       by_cases h2: ∃x∈X.L,qi x.cls=i∧k=keyOf X x
       · exact .inl ⟨h2,hne⟩
       · exact .inr ⟨h,h2⟩
     · rintro (⟨h,hne⟩|⟨h,h2⟩)
       · exact ⟨hin i h,hne⟩
       · exact ⟨h,fun e2=>h2 ⟨o,ho,e.symm,e2⟩⟩
   · rename_i e
     constructor
     · intro h
       by_cases h2: ∃x∈X.L,qi x.cls=i∧k=keyOf X x
       · refine .inl ⟨h2,fun e2=> ?_⟩
         obtain ⟨x,hx,h3,h4⟩:=h2;have:=(wP g hX hX hx ho (h4.symm.trans e2)).2;exact e (by rw [←h3,this])
       · exact .inr ⟨h,h2⟩
     · rintro (⟨h,_⟩|⟨h,_⟩)
       · exact hin i h
       · exact h
theorem aO.gone (g:aO H) (hX:X∈H.B) (he:X.L= []):aO (H.IJ X.pl):=by
 refine ⟨fun Y hY=>g.seg Y (jF.1 hY).1,g.jK.sublist (List.filter_sublist.map _),g.q,fun i k=> ?_⟩;show k∈(H.Q i).all↔_;rw [g.mem];constructor
 · rintro ⟨Y,hY,o,ho,h⟩
   refine ⟨Y,jF.2 ⟨hY,fun e=> ?_⟩,o,ho,h⟩;have:=iI g.jK hY hX e;subst this;rw [he] at ho;cases ho
 · rintro ⟨Y,hY,h⟩
   exact ⟨Y,(jF.1 hY).1,h⟩
theorem aO.zero:aO h0:=⟨(fun X h=>by cases h),List.nodup_nil,fun _=>bZ.zero,fun i k=>⟨(fun h=>by cases h),(fun h=>by obtain ⟨X,h,_⟩:=h;cases h)⟩⟩
theorem aO.more (g:aO H) {Y:SG} (gY:GoodS Y) (hn: ∀X∈H.B,X.pl≠Y.pl) {Q':Nat→QR} (hq: ∀i,bZ (Q' i)) (hm: ∀i k,k∈(Q' i).all↔k∈(H.Q i).all∨ ∃o∈Y.L,qi o.cls=i∧k=keyOf Y o):aO ⟨H.B++ [Y],Q'⟩:=by
 refine ⟨fun X hX=> ?_, ?_,hq,fun i k=> ?_⟩
 · rcases List.mem_append.1 hX with h|h
   · exact g.seg X h
   · rw [List.mem_singleton.1 h];exact gY
 · show ((H.B++ [Y]).map _).Nodup
   rw [List.map_append,List.nodup_append];refine ⟨g.jK,by simp,fun x hx y hy e=> ?_⟩;obtain ⟨X,hX,rfl⟩:=List.mem_map.1 hx;have:y=Y.pl:=by simpa using hy
   exact hn X hX (e.trans this)
 · show k∈(Q' i).all↔Jh (H.B++ [Y]) i k
   rw [hm,g.mem];constructor
   · rintro (⟨X,hX,h⟩|h)
     · exact ⟨X,List.mem_append_left _ hX,h⟩
     · exact ⟨Y,List.mem_append_right _ (List.mem_singleton.2 rfl),h⟩
   · rintro ⟨X,hX,h⟩
     rcases List.mem_append.1 hX with hX|hX
     · exact .inl ⟨X,hX,h⟩
     · rw [List.mem_singleton.1 hX] at h;exact .inr h
end
end Go.Proofs.YtpibbcnkgdmcbaaGreatDoor.aD
namespace Go.Proofs.YtpibbcnkgdmcbaaGreatDoor.aD
open aC aG aF au aI aB
def dR (S:PG) (x:Nat):Bool:=decide (S.f≤x)&&decide (x<S.f+S.n*S.s)
theorem iy {S:PG} {x:Nat}:dR S x=true↔S.f≤x∧x<S.f+S.n*S.s:=by unfold dR;simp
theorem yE {S T:PG} (h:T.f=S.f∧T.s=S.s∧T.n=S.n) (x:Nat):dR T x=dR S x:=by unfold dR;rw [h.1,h.2.1,h.2.2]
theorem uD {S:PG} {m a:Nat} (h:bO S.f S.s m a) (hm:m≤S.n) (hs:16≤S.s):dR S a=true:=by
 have h1:=h.fits hm (Nat.le_refl (S.f+S.n*S.s));obtain ⟨i,_,e⟩:=h;exact iy.2 ⟨by omega,by omega⟩
structure HU (H:HS) (L U:List Nat):Prop where
 wh: ∀X∈H.B,∀o∈X.L,aJ L o.P∧ ∃P,Wh L o.P (U.filter (dR o.P)) P
 at': ∀x∈U,∃X∈H.B,∃o∈X.L,dR o.P x=true
 nd:U.Nodup
section
variable {H:HS} {L L' U:List Nat} {X Z:SG} {o z:bY}
theorem qC (g:aO H) (hX:X∈H.B) (ho:o∈X.L) (hZ:Z∈H.B) (hz:z∈Z.L) (hne: ¬(X=Z∧o=z)):o.P.f+o.P.n*o.P.s≤z.P.f∨z.P.f+z.P.n*z.P.s≤o.P.f:=by
 by_cases e:X=Z
 · subst e
   exact (g.seg X hX).g.apart ho hz fun e=>hne ⟨rfl,e⟩
 · have hp:X.pl≠Z.pl:=fun h=>e (iI g.jK hX hZ h)
   have h1:=(g.seg X hX).g.within ho;have h2:=(g.seg Z hZ).g.within hz;have h3:=(g.seg X hX).g.fit o ho;have h4:=(g.seg Z hZ).g.fit z hz;unfold aL at h1 h2;omega
theorem HU.blk (g:aO H) (h:HU H L U) {x:Nat} (hx:x∈U): ∃X∈H.B,∃o∈X.L,bO o.P.f o.P.s o.P.made x∧dO H x=some (X,o):=by
 obtain ⟨X,hX,o,ho,hr⟩:=h.at' x hx;obtain ⟨hg,P,hw⟩:=h.wh X hX o ho;have hb:=hw.zO x (List.mem_filter.2 ⟨hx,hr⟩);exact ⟨X,hX,o,ho,hb,uO g hX ho (hb.mono hg.made)⟩
theorem HU.apart (g:aO H) (h:HU H L U) {x y:Nat} (hx:x∈U) (hy:y∈U) (hne:x≠y) (hX:X∈H.B) (ho:o∈X.L) (hZ:Z∈H.B) (hz:z∈Z.L) (h1:bO o.P.f o.P.s o.P.made x) (h2:bO z.P.f z.P.s z.P.made y):x+o.P.s≤y∨y+z.P.s≤x:=by
 have go:=(h.wh X hX o ho).1;have gz:=(h.wh Z hZ z hz).1;by_cases e:X=Z∧o=z
 · obtain ⟨rfl,rfl⟩:=e
   exact h1.apart h2 hne
 · have ha:=qC g hX ho hZ hz e
   have k1:=h1.fits go.made (Nat.le_refl (o.P.f+o.P.n*o.P.s));have k2:=h2.fits gz.made (Nat.le_refl (z.P.f+z.P.n*z.P.s));obtain ⟨i,_,e1⟩:=h1;obtain ⟨j,_,e2⟩:=h2;omega
theorem Wh.aside {S:PG} {P Y:List Nat} (hg:aJ L S) (h:Wh L S U P) (e:Agree L L' Y) (hY: ∀y∈Y,y+8≤S.f∨S.f+S.n*S.s≤y):Wh L' S U P:=by
 refine ⟨Chain.agree e h.cP fun b hb y hy=> ?_,h.zP,h.zO,h.nd,h.add,h.use⟩;have h1:=(h.zP b hb).fits hg.made (Nat.le_refl (S.f+S.n*S.s));obtain ⟨i,_,e⟩:=h.zP b hb;have h2:=hg.s16;have:=hY y hy;unfold g_;omega
theorem aJ.Ja {S:PG} {Y:List Nat} (h:aJ L S) (e:Agree L L' Y) (hY: ∀y∈Y,y+8≤S.f∨S.f+S.n*S.s≤y):aJ L' S:=by
 have ha: ∀b,bO S.f S.s S.made b→ ∀y∈Y,g_ y b:=fun b hb y hy=>by
  have h1:=hb.fits h.made (Nat.le_refl (S.f+S.n*S.s));obtain ⟨i,_,e⟩:=hb;have h2:=h.s16;have:=hY y hy;unfold g_;omega
 exact ⟨h.f0,h.s16,h.n1,h.n2,by rw [e.1];exact h.fit,by rw [e.1];exact h.big,h.made,Chain.agree e h.cF fun b hb y hy=>ha b (h.FW b hb) y hy,Chain.agree e h.cG fun b hb y hy=>ha b (h.EB b hb) y hy,h.FW,h.EB,h.nd⟩
theorem HU.turn {V P Y:List Nat} {S:PG} (g:aO H) (h:HU H L U) (hX:X∈H.B) (ho:o∈X.L) (hs:S.f=o.P.f∧S.s=o.P.s∧S.n=o.P.n) (ha:Agree L L' Y) (hY: ∀y∈Y,o.P.f≤y∧y+8≤o.P.f+o.P.n*o.P.s)
 (hg:aJ L' S) (hw:Wh L' S (V.filter (dR o.P)) P) (hn:V.Nodup) (hV: ∀x∈V,x∈U∨dR o.P x=true) (hV2: ∀Q:PG,(Q.f+Q.n*Q.s≤o.P.f∨o.P.f+o.P.n*o.P.s≤Q.f)→(U.filter (dR Q)).Perm (V.filter (dR Q))):HU (H.eu (X.put o.pp S)) L' V:=by
 have hpp: ∀x∈X.L,x.pp=o.pp→x=o:=fun x hx e=>by
  have hn:=(g.seg X hX).pps
  revert hx ho hn
  generalize X.L=l
  intro ho hx hn
  induction l with
  |nil=>cases ho
  |cons y t ih=>
   rw [List.map_cons,List.nodup_cons] at hn;rcases List.mem_cons.1 ho with rfl|ho2
   · rcases List.mem_cons.1 hx with rfl|hx2
     · rfl
     · exact absurd (List.mem_map.2 ⟨x,hx2,e⟩) hn.1
   · rcases List.mem_cons.1 hx with rfl|hx2
     · exact absurd (List.mem_map.2 ⟨o,ho2,e.symm⟩) hn.1
     · exact ih ho2 hx2 hn.2
 have other: ∀Z∈H.B,∀z∈Z.L,¬(X=Z∧o=z)→aJ L' z.P∧ ∃P,Wh L' z.P (V.filter (dR z.P)) P:=fun Z hZ z hz hne=>by
  obtain ⟨k1,P,k2⟩:=h.wh Z hZ z hz;have hap:=qC g hX ho hZ hz hne;have ZF: ∀y∈Y,y+8≤z.P.f∨z.P.f+z.P.n*z.P.s≤y:=fun y hy=>by have:=hY y hy;omega
  exact ⟨aJ.Ja k1 ha ZF,P,(Wh.aside k1 k2 ha ZF).perm (hV2 z.P (by omega))⟩
 refine ⟨fun Z hZ z hz=> ?_,fun x hx=> ?_,hn⟩
 · rcases bW.1 hZ with ⟨rfl,_⟩|⟨hZ,hne⟩
   · obtain ⟨y,hy,rfl⟩:=put_mem.1 hz
     by_cases e:y.pp=o.pp
     · have:=hpp y hy e
       subst this;rw [if_pos rfl];refine ⟨hg,P, ?_⟩;have e2:V.filter (dR S)=V.filter (dR y.P):=List.filter_congr fun x _=>yE hs x;show Wh L' S (V.filter (dR S)) P;rw [e2];exact hw
     · rw [if_neg e]
       exact other X hX y hy fun x=>e (by rw [x.2])
   · exact other Z hZ z hz fun x=>hne (by rw [←x.1];rfl)
 · have: ∃Z∈H.B,∃z∈Z.L,dR z.P x=true:=by
    rcases hV x hx with h1|h1
    · exact h.at' x h1
    · exact ⟨X,hX,o,ho,h1⟩
   obtain ⟨Z,hZ,z,hz,hr⟩:=this;by_cases e:Z.pl=X.pl
   · have:=iI g.jK hZ hX e
     subst this;refine ⟨Z.put o.pp S,bW.2 (.inl ⟨rfl,Z,hZ,rfl⟩),_,put_mem.2 ⟨z,hz,rfl⟩, ?_⟩;split
     · rename_i e2
       have:=hpp z hz e2;subst this;show dR S x=true;rw [yE hs];exact hr
     · exact hr
   · exact ⟨Z,bW.2 (.inr ⟨hZ,e⟩),z,hz,hr⟩
theorem HU.rows {H':HS} (h:HU H L U) (e:H'.B=H.B):HU H' L U:=⟨fun X hX=>h.wh X (by rw [←e];exact hX),fun x hx=>by rw [e];exact h.at' x hx,h.nd⟩
theorem HU.zero (L:List Nat):HU h0 L []:=⟨(fun X h=>by cases h),(fun x h=>by cases h),List.nodup_nil⟩
theorem HU.cut (g:aO H) (h:HU H L U) (hX:X∈H.B) (ho:o∈X.L) (h0:o.P.used=0):HU (H.eu (X.cut o)) L U:=by
 have hsub: ∀x,x∈(X.cut o).L↔(x∈X.L∧x.lo≠o.lo):=fun x=>by
  show x∈X.L.filter _↔_;rw [List.mem_filter];simp
 refine ⟨fun Z hZ z hz=> ?_,fun x hx=> ?_,h.nd⟩
 · rcases bW.1 hZ with ⟨rfl,_⟩|⟨hZ,_⟩
   · exact h.wh X hX z ((hsub z).1 hz).1
   · exact h.wh Z hZ z hz
 · obtain ⟨Z,hZ,z,hz,hr⟩:=h.at' x hx
   by_cases e:Z.pl=X.pl
   · have:=iI g.jK hZ hX e
     subst this;refine ⟨Z.cut o,bW.2 (.inl ⟨rfl,Z,hZ,rfl⟩),z,(hsub z).2 ⟨hz,fun e2=> ?_⟩,hr⟩;have:=(g.seg Z hZ).g.one hz ho e2;subst this;obtain ⟨_,P,hw⟩:=h.wh Z hZ z hz;have h1:x∈U.filter (dR z.P):=List.mem_filter.2 ⟨hx,hr⟩;have h2:=hw.use;have h3:=List.length_pos_of_mem h1;omega
   · exact ⟨Z,bW.2 (.inr ⟨hZ,e⟩),z,hz,hr⟩
theorem HU.gone (g:aO H) (h:HU H L U) (hX:X∈H.B) (he:X.L= []):HU (H.IJ X.pl) L U:=by
 refine ⟨fun Z hZ=>h.wh Z (jF.1 hZ).1,fun x hx=> ?_,h.nd⟩;obtain ⟨Z,hZ,z,hz,hr⟩:=h.at' x hx;refine ⟨Z,jF.2 ⟨hZ,fun e=> ?_⟩,z,hz,hr⟩;have:=iI g.jK hZ hX e;subst this;rw [he] at hz;cases hz
end
end Go.Proofs.YtpibbcnkgdmcbaaGreatDoor.aD
namespace Go.Proofs.YtpibbcnkgdmcbaaGreatDoor.aD
open aC aG aF au aI aB
open aA (St reserve release)
def eU (c:Int):List Int→HS→HS×Nat×Int×List Nat
 | [],H=>(H,0,4, [])
 |k::t,H=>match dO H (k.toNat*1024) with
  |none=>eU c t H
  |some (X,o)=>if (aP o.P).2.2=0 then (H.eu (X.put o.pp (aP o.P).1),(aP o.P).2.1,0,b_ o.P) else eU c t (H.mQ c (eO (H.Q (qi c)) k).1)
def bF (H:HS) (c:Int):HS×Nat×Int×List Nat:=if c<0∨12≤c then (H,0,2, []) else eU c (H.Q (qi c)).R H
def dZ (c:Int) (sl:Nat):Nat:=if c<0 then sl else aM c.toNat
def h_ (c:Int):Nat:=if c<0 then 1 else bE c.toNat
def bQ (c:Int) (sl:Nat):Nat:=if c<0 then sl*1024 else aK c.toNat
def eX (c sl:Int):Prop:=c< -1∨12≤c∨(c= -1∧(sl<1∨15<sl))
instance (c sl:Int):Decidable (eX c sl):=inferInstanceAs (Decidable (_∨_∨(_∧(_∨_))))
def iX (H:HS) (wd:Nat):Option (SG×Nat):=H.B.findSome? fun X=>(aj.low X.K wd).map fun a=>(X,a)
def gV (X:SG) (op pp:Nat) (c:Int) (sl a:Nat):SG:=(X.add op pp c a (dZ c sl) (h_ c) (bQ c sl)).put pp (fresh (aL X.pl a) (bQ c sl) (h_ c) 1)
def jM (H:HS) (X:SG) (op pp:Nat) (c:Int) (sl a:Nat):HS:=(H.eu (gV X op pp c sl a)).mQ c (bK (H.Q (qi c)) [iH X.pl a]).1
def aY (id pl:Nat):SG:={iY pl with ow:=id,ot:=1,oa:=1}
def cZ (H:HS) (A:St) (id:Nat):HS×Int×St:=if (reserve A 1).2.1≠0 then (H,(reserve A 1).2.1,(reserve A 1).2.2) else ({H with B:=H.B++ [aY id (reserve A 1).1.toNat]},0,(reserve A 1).2.2)
def gK (H:HS) (A:St) (X:SG) (o:bY):HS×St:=
 if 0<o.P.used then (H,A) else
 if (X.cut o).L= [] then (((H.eu (X.cut o)).mQ o.cls (aX (H.Q (qi o.cls)) [keyOf X o]).1).IJ X.pl,(release A (X.pl:Int)).2)
 else ((H.eu (X.cut o)).mQ o.cls (aX (H.Q (qi o.cls)) [keyOf X o]).1,A)
def lG (H:HS) (X:SG) (o:bY) (S:PG):HS:=(H.eu (X.put o.pp S)).mQ o.cls (dK (H.Q (qi o.cls)) (keyOf X o)).1
def fJ (H:HS) (A:St) (a:Nat):(HS×St)×Int:=match dO H a with
 |none=>((H,A),5)
 |some (X,o)=>if (bg o.P a).2≠0 then ((H,A),(bg o.P a).2) else (gK (lG H X o (bg o.P a).1) A (X.put o.pp (bg o.P a).1) {o with P:=(bg o.P a).1},0)
def jR (H:HS) (A:St) (X:SG) (o:bY) (P:List Nat):HS×St:=
 gK (if P= [] then H.eu (X.put o.pp (iB o.P P)) else lG H X o (iB o.P P)) A (X.put o.pp (iB o.P P)) {o with P:=iB o.P P}
def kQ (Q:Nat→QR) (X:SG):List bY→Nat→QR
 | []=>Q
 |o::t=>kQ (fun i=>if i=qi o.cls then (bK (Q i) [keyOf X o]).1 else Q i) X t
def jB (Q:Nat→QR) (X:SG):List bY→Nat→QR
 | []=>Q
 |o::t=>jB (fun i=>if i=qi o.cls then (aX (Q i) [keyOf X o]).1 else Q i) X t
def uV (H:HS) (X:SG):HS×Int:=if H.B.any fun Y=>decide (Y.pl=X.pl) then (H,6) else (⟨H.B++ [X],kQ H.Q X X.L⟩,0)
def qJ (H:HS) (pl:Int):HS×Int:=match H.B.find? fun Y=>decide ((Y.pl:Int)=pl) with
 |none=>(H,5)
 |some X=>(⟨(H.IJ X.pl).B,jB H.Q X X.L⟩,0)
def Pv (k:Int):Nat:=k.toNat*1024
def nG:List Int:= [0,1,2,3,4,5,6,7,8,9,10,11,-1]
def Yc (c:Int):Bool:=decide (-1≤c)&&decide (c≤11)
def fT (H:HS) (cs:List Int):List Nat:=cs.flatMap fun c=>if Yc c then (H.Q (qi c)).all.map Pv else []
def iD (H:HS) (cs:List Int):List Nat:=fT H (if cs= [] then nG else cs)
section
variable {H:HS} {L L' U:List Nat} {X:SG} {o:bY}
theorem qD {wd a:Nat} (h:iX H wd=some (X,a)):X∈H.B∧aj.low X.K wd=some a:=by
 obtain ⟨Y,hY,e⟩:=List.exists_of_findSome?_eq_some h;obtain ⟨u,hu,e⟩:=Option.map_eq_some_iff.1 e;cases e;exact ⟨hY,hu⟩
theorem planned {c:Int} {sl:Nat} (h: ¬eX c (sl:Int)):1≤dZ c sl∧dZ c sl≤15∧1≤h_ c∧ ∀op pp a f,nH ⟨op,pp,c,a,dZ c sl,bR f (bQ c sl) (h_ c)⟩:=by
 unfold eX at h;unfold dZ h_ bQ;by_cases hc:c<0
 · rw [if_pos hc,if_pos hc,if_pos hc]
   refine ⟨by omega,by omega,Nat.le_refl _,fun op pp a f=> .inl ⟨by show c= -1;omega,rfl,rfl⟩⟩
 · rw [if_neg hc,if_neg hc,if_neg hc]
   obtain ⟨k,rfl⟩:=Int.eq_ofNat_of_zero_le (show 0≤c by omega);rw [Int.toNat_natCast];have hk:k<12:=by omega
   obtain ⟨g1,g2,g3,g4,g5,g6⟩:=qB k hk;exact ⟨g5,by omega,by omega,fun op pp a f=> .inr ⟨k,hk,rfl,rfl,rfl,rfl⟩⟩
theorem yN (g:aO H) {op pp a sl:Nat} {c:Int} (hX:X∈H.B) (hb: ¬eX c (sl:Int)) (ha:aj.low X.K (dZ c sl)=some a) (hp: ∀o∈X.L,o.pp≠pp):aO (jM H X op pp c sl a):=by
 obtain ⟨h1,h2,h3,h4⟩:=planned hb;have hlow:=aj.jc h1 ha;obtain ⟨k1,k2⟩:=g.add hX h1 hlow.1 (h4 op pp a (aL X.pl a)) hp;have hin:X.add op pp c a (dZ c sl) (h_ c) (bQ c sl)∈((H.eu (X.add op pp c a (dZ c sl) (h_ c) (bQ c sl))).mQ c (bK (H.Q (qi c)) [iH X.pl a]).1).B:=bW.2 (.inl ⟨rfl,X,hX,rfl⟩);have ho:(⟨op,pp,c,a,dZ c sl,bR (aL X.pl a) (bQ c sl) (h_ c)⟩:bY)∈(X.add op pp c a (dZ c sl) (h_ c) (bQ c sl)).L:=fZ.2 (.inl rfl);have k3:=k1.put hin ho (S:=fresh (aL X.pl a) (bQ c sl) (h_ c) 1) ⟨rfl,rfl,rfl⟩;refine k3.rows ?_ k3.q fun i k=>Iff.rfl;show (H.B.map _)=(H.B.map _).map _;rw [List.map_map];refine List.map_congr_left fun Y hY=> ?_;show (if Y.pl=X.pl then gV X op pp c sl a else Y)=if (if Y.pl=X.pl then X.add op pp c a (dZ c sl) (h_ c) (bQ c sl) else Y).pl=X.pl then gV X op pp c sl a else if Y.pl=X.pl then X.add op pp c a (dZ c sl) (h_ c) (bQ c sl) else Y
 by_cases e:Y.pl=X.pl
 · rw [if_pos e,if_pos e];exact (if_pos rfl).symm
 · rw [if_neg e,if_neg e,if_neg e]
theorem Av (g:aO H) {A:St} {id:Nat} (hA:aA.Good A) (hn: ∀X∈H.B,∃n,(X.pl,n)∈A.l):aO (cZ H A id).1:=by
 unfold cZ;split
 · exact g
 · rename_i h0
   have hz:(reserve A 1).2.1=0:=Decidable.not_not.1 h0;have hs: ∃a:Nat,reserve A 1=((a:Int),0,A.give a 1)∧aA.spot A.S A.l 1=some a:=by
    unfold reserve at hz⊢;by_cases h1:aA.far A 1
    · rw [if_pos h1] at hz;cases hz
    · rw [if_neg h1] at hz⊢
      by_cases h2:A.T.headD false=true∨A.lim<aA.total A.l+(1:Int).toNat
      · rw [if_pos h2] at hz;cases hz
      · rw [if_neg h2] at hz⊢
        cases hsp:aA.spot A.S A.l (1:Int).toNat with
        |none=>rw [hsp] at hz;cases hz
        |some a=>exact ⟨a,rfl,hsp⟩
   obtain ⟨a,e,hsp⟩:=hs;obtain ⟨s1,s2,_⟩:=aA.jY hsp;have hS:=hA.S2;show aO ⟨H.B++ [aY id (reserve A 1).1.toNat],H.Q⟩;rw [e];refine g.more (Y:=aY id a) ⟨⟨(bX.new a).len,(bX.new a).mark,(bX.new a).rise,(bX.new a).fit,(bX.new a).run,(bX.new a).cls,(bX.new a).sum⟩,(show a≤63 by omega),List.nodup_nil⟩ (fun X hX ep=> ?_) g.q fun i k=>⟨.inl,fun h=>h.elim (fun x=>x) fun ⟨o,ho,_⟩=>by cases ho⟩;obtain ⟨n,hin⟩:=hn X hX;have h1:=(hA.ok.2 _ hin).1;have ep':X.pl=a:=ep;exact s2 _ hin ⟨by show a<X.pl+n;omega,by show X.pl<a+1;omega⟩
theorem uF (g:aO H) {A:St} (hX:X∈H.B) (ho:o∈X.L):aO (gK H A X o).1:=by
 unfold gK;split
 · exact g
 · have k:=g.cut hX ho
   split
   · rename_i he
     have hin:X.cut o∈((H.eu (X.cut o)).mQ o.cls (aX (H.Q (qi o.cls)) [keyOf X o]).1).B:=bW.2 (.inl ⟨rfl,X,hX,rfl⟩);exact k.gone (X:=X.cut o) hin he
   · exact k
theorem l8 (g:aO H) (hX:X∈H.B) (ho:o∈X.L) {S:PG} (hs:S.f=o.P.f∧S.s=o.P.s∧S.n=o.P.n):aO (lG H X o S):=(g.put hX ho hs).wake o.cls (keyOf X o)
theorem mV (ho:o∈X.L) (S:PG):({o with P:=S}:bY)∈(X.put o.pp S).L:=put_mem.2 ⟨o,ho,by rw [if_pos rfl]⟩
theorem qM (S:PG) (a:Nat):(bg S a).1.f=S.f∧(bg S a).1.s=S.s∧(bg S a).1.n=S.n:=by
 unfold bg;split
 · exact ⟨rfl,rfl,rfl⟩
 · split<;>exact ⟨rfl,rfl,rfl⟩
theorem Mq (g:aO H) (A:St) (hX:X∈H.B) (ho:o∈X.L) (P:List Nat):aO (jR H A X o P).1:=by
 unfold jR;split
 · exact uF (g.put hX ho (S:=iB o.P P) ⟨rfl,rfl,rfl⟩) (bW.2 (.inl ⟨rfl,X,hX,rfl⟩)) (mV ho _)
 · exact uF (l8 g hX ho (S:=iB o.P P) ⟨rfl,rfl,rfl⟩) (bW.2 (.inl ⟨rfl,X,hX,rfl⟩)) (mV ho _)
theorem vg (X:SG): ∀(l:List bY) (Q:Nat→QR),(∀i,bZ (Q i))→(∀i,bZ (kQ Q X l i))∧ ∀i k,k∈(kQ Q X l i).all↔k∈(Q i).all∨ ∃o∈l,qi o.cls=i∧k=keyOf X o
 | [],Q,hq=>⟨hq,fun i k=>⟨.inl,fun h=>h.elim id fun ⟨o,ho,_⟩=>by cases ho⟩⟩
 |o::t,Q,hq=>by
  have hq': ∀i,bZ ((fun i=>if i=qi o.cls then (bK (Q i) [keyOf X o]).1 else Q i) i):=fun i=>by
   show bZ (if i=qi o.cls then (bK (Q i) [keyOf X o]).1 else Q i);split
   · exact (hq i).push _
   · exact hq i
  obtain ⟨k1,k2⟩:=vg X t _ hq';refine ⟨k1,fun i k=> ?_⟩;show k∈(kQ _ X t i).all↔_;rw [k2];show k∈(if i=qi o.cls then (bK (Q i) [keyOf X o]).1 else Q i).all∨_↔_;constructor
  · rintro (h|⟨u,hu,h⟩)
    · split at h
      · rename_i e
        rcases mem_push.1 h with h|h
        · exact .inl h
        · exact .inr ⟨o,List.mem_cons_self ..,e.symm,h⟩
      · exact .inl h
    · exact .inr ⟨u,List.mem_cons_of_mem _ hu,h⟩
  · rintro (h|⟨u,hu,h1,h2⟩)
    · left
      split
      · exact mem_push.2 (.inl h)
      · exact h
    · rcases List.mem_cons.1 hu with rfl|hu
      · left;rw [if_pos h1.symm];exact mem_push.2 (.inr h2)
      · exact .inr ⟨u,hu,h1,h2⟩
theorem vM (X:SG): ∀(l:List bY) (Q:Nat→QR),(∀i,bZ (Q i))→(∀i,bZ (jB Q X l i))∧ ∀i k,k∈(jB Q X l i).all↔k∈(Q i).all∧ ¬ ∃o∈l,qi o.cls=i∧k=keyOf X o
 | [],Q,hq=>⟨hq,fun i k=>⟨fun h=>⟨h,fun ⟨o,ho,_⟩=>by cases ho⟩,fun h=>h.1⟩⟩
 |o::t,Q,hq=>by
  have hq': ∀i,bZ ((fun i=>if i=qi o.cls then (aX (Q i) [keyOf X o]).1 else Q i) i):=fun i=>by
   show bZ (if i=qi o.cls then (aX (Q i) [keyOf X o]).1 else Q i);split
   · exact (hq i).remove _
   · exact hq i
  obtain ⟨k1,k2⟩:=vM X t _ hq';refine ⟨k1,fun i k=> ?_⟩;show k∈(jB _ X t i).all↔_;rw [k2];show k∈(if i=qi o.cls then (aX (Q i) [keyOf X o]).1 else Q i).all∧_↔_;constructor
  · rintro ⟨h,h2⟩
    have h3:k∈(Q i).all∧(qi o.cls=i→k≠keyOf X o):=by
     split at h
     · exact ⟨(mX.1 h).1,fun _=>(mX.1 h).2⟩
     · rename_i e;exact ⟨h,fun x=>absurd x.symm e⟩
    refine ⟨h3.1, ?_⟩;rintro ⟨u,hu,e1,e2⟩;rcases List.mem_cons.1 hu with rfl|hu
    · exact h3.2 e1 e2
    · exact h2 ⟨u,hu,e1,e2⟩
  · rintro ⟨h,h2⟩
    refine ⟨?_,fun ⟨u,hu,e⟩=>h2 ⟨u,List.mem_cons_of_mem _ hu,e⟩⟩;split
    · rename_i e;exact mX.2 ⟨h,fun x=>h2 ⟨o,List.mem_cons_self ..,e.symm,x⟩⟩
    · exact h
theorem Ig (g:aO H) (gX:GoodS X):aO (uV H X).1:=by
 unfold uV;split
 · exact g
 · rename_i h
   obtain ⟨k1,k2⟩:=vg X X.L H.Q g.q;refine g.more gX (fun Y hY e=>h ?_) k1 k2;exact List.any_eq_true.2 ⟨Y,hY,by simpa using e⟩
theorem Ie (g:aO H) (pl:Int):aO (qJ H pl).1:=by
 unfold qJ;cases he:H.B.find? fun Y=>decide ((Y.pl:Int)=pl) with
 |none=>exact g
 |some X=>
  have hX:=List.mem_of_find?_eq_some he;obtain ⟨k1,k2⟩:=vM X X.L H.Q g.q;refine ⟨fun Y hY=>g.seg Y (jF.1 hY).1,g.jK.sublist (List.filter_sublist.map _),k1,fun i k=> ?_⟩;show k∈(jB H.Q X X.L i).all↔Jh (H.IJ X.pl).B i k;rw [k2,g.mem];constructor
  · rintro ⟨⟨Y,hY,o,ho,h⟩,h2⟩
    refine ⟨Y,jF.2 ⟨hY,fun e=>h2 ?_⟩,o,ho,h⟩;have:=iI g.jK hY hX e;subst this;exact ⟨o,ho,h⟩
  · rintro ⟨Y,hY,o,ho,h1,h3⟩
    obtain ⟨hY,hne⟩:=jF.1 hY;refine ⟨⟨Y,hY,o,ho,h1,h3⟩, ?_⟩;rintro ⟨u,hu,_,e⟩;exact hne (by rw [(wP g hY hX ho hu (h3.symm.trans e)).1])
end
end Go.Proofs.YtpibbcnkgdmcbaaGreatDoor.aD
namespace Go.Proofs.YtpibbcnkgdmcbaaGreatDoor.aD
open aC aG aF au aI aB
open aA (St reserve release)
section
variable {H:HS} {L L' U V:List Nat} {X:SG} {o:bY} {A:St}
theorem qw {c:Int}: ∀(l:List Int) {H:HS},aO H→(∀k∈l,Jh H.B (qi c) k)→
 (∃H1 X o,H1.B=H.B∧aO H1∧X∈H.B∧o∈X.L∧qi o.cls=qi c∧(aP o.P).2.2=0∧eU c l H=(H1.eu (X.put o.pp (aP o.P).1),(aP o.P).2.1,0,b_ o.P))∨
 (∃H1,H1.B=H.B∧aO H1∧eU c l H=(H1,0,4, [])∧ ∀k∈l,∀X∈H.B,∀o∈X.L,k=keyOf X o→(aP o.P).2.2≠0)
 | [],H,g,_=> .inr ⟨H,rfl,g,rfl,fun k h=>by cases h⟩
 |k::t,H,g,hl=>by
  obtain ⟨X,hX,o,ho,hq,e⟩:=hl k (List.mem_cons_self ..);have hf:dO H (k.toNat*1024)=some (X,o):=by rw [e];exact AU g hX ho
  by_cases ha:(aP o.P).2.2=0
  · refine .inl ⟨H,X,o,rfl,g,hX,ho,hq,ha, ?_⟩
    unfold eU;rw [hf];simp only [];rw [if_pos ha]
  · have e2:eU c (k::t) H=eU c t (H.mQ c (eO (H.Q (qi c)) k).1):=by
     rw [eU];rw [hf];simp only [];rw [if_neg ha]
    rw [e2];rcases qw (c:=c) t (g.fill c k) (fun k hk=>hl k (List.mem_cons_of_mem _ hk)) with ⟨H1,Y,u,h1,h2,h3,h4,h5,h6,h7⟩|⟨H1,h1,h2,h3,h4⟩
    · exact .inl ⟨H1,Y,u,h1,h2,h3,h4,h5,h6,h7⟩
    · refine .inr ⟨H1,h1,h2,h3,fun k' hk' Y hY u hu e3=> ?_⟩
      rcases List.mem_cons.1 hk' with rfl|hk'
      · obtain ⟨rfl,rfl⟩:=wP g hX hY ho hu (e.symm.trans e3)
        exact ha
      · exact h4 k' hk' Y hY u hu e3
theorem OY (g:aO H) (i:Nat): ∀k∈(H.Q i).R,Jh H.B i k:=fun k hk=>(g.mem i k).1 (dx.2 (.inl hk))
theorem Ip (V:List Nat) (x:Nat) (p:Nat→Bool) (h:p x=false):(V++ [x]).filter p=V.filter p:=by rw [List.filter_append,List.filter_cons_of_neg (by simp [h])];simp
theorem EW (V:List Nat) (x:Nat) (p:Nat→Bool) (h:p x=true):(V++ [x]).filter p=V.filter p++ [x]:=by rw [List.filter_append,List.filter_cons_of_pos h];rfl
theorem xZ {S:PG} (g:aJ L S): ∀y∈b_ S,S.f≤y∧y+8≤S.f+S.n*S.s:=fun y hy=>by
 unfold b_ at hy;split at hy
 · have hb:=lW hy
   have hm:=g.made;have hk:S.made+vw S≤S.n:=by unfold vw;split<;>omega
   have h1:=hb.fits hk (Nat.le_refl (S.f+S.n*S.s));obtain ⟨i,_,e⟩:=hb;have h2:=g.s16;exact ⟨by omega,by omega⟩
 · cases hy
theorem HU.alloc (g:aO H) (h:HU H L U) (hX:X∈H.B) (ho:o∈X.L) (ha:(aP o.P).2.2=0) (hL:Agree L L' (b_ o.P)) (hg:aJ L' (aP o.P).1):
 HU (H.eu (X.put o.pp (aP o.P).1)) L' (U++ [(aP o.P).2.1])∧(aP o.P).2.1∉U∧bO o.P.f o.P.s (aP o.P).1.made (aP o.P).2.1∧0<(aP o.P).1.used:=by
 obtain ⟨k1,P,k2⟩:=h.wh X hX o ho;obtain ⟨S',a,e⟩: ∃S' a,aP o.P=(S',a,0):=⟨_,_,by rw [←ha]⟩;rw [e] at hg⊢;show HU (H.eu (X.put o.pp S')) L' (U++ [a])∧a∉U∧bO o.P.f o.P.s S'.made a∧0<S'.used;rcases k2.alloc k1 e hL with ⟨_,h2,h3,h4,t,h5,h6⟩|⟨h1,_⟩
 · obtain ⟨r1,r2,r3,r4,r5⟩:=kP k1
   have hb:bO o.P.f o.P.s S'.made a:=by
    have h7:=r1 a (by rw [h5];exact List.mem_cons_self ..);rw [h6];exact h7
   have hm:S'.made≤o.P.n:=by rw [h6];exact r2
   have hr:dR o.P a=true:=uD hb hm k1.s16;have hs:S'.f=o.P.f∧S'.s=o.P.s∧S'.n=o.P.n:=by rw [h6];exact ⟨r3,r4,r5⟩
   have hU:a∉U:=fun x=>h3 (List.mem_filter.2 ⟨x,hr⟩);refine ⟨h.turn g hX ho hs hL (xZ k1) hg (P:=P) (by rw [EW _ _ _ hr];exact h2) ?_ (fun x hx=> ?_) (fun Q hQ=> ?_),hU,hb,by rw [h6];exact Nat.succ_pos _⟩
   · rw [List.nodup_append]
     exact ⟨h.nd,by simp,fun y hy z hz e=>by rw [List.mem_singleton.1 hz] at e;subst e;exact hU hy⟩
   · rcases List.mem_append.1 hx with hx|hx
     · exact .inl hx
     · rw [List.mem_singleton.1 hx];exact .inr hr
   · have hr':=iy.1 hr
     rw [Ip _ _ _ (by
      cases hc:dR Q a with
      |false=>rfl
      |true=>have:=iy.1 hc;omega)]
 · cases h1
theorem HU.tidy (g:aO H) (h:HU H L U) (hX:X∈H.B) (ho:o∈X.L):HU (gK H A X o).1 L U:=by
 unfold gK;split
 · exact h
 · rename_i h0
   have k1:=h.cut g hX ho (by omega);have k2:HU ((H.eu (X.cut o)).mQ o.cls (aX (H.Q (qi o.cls)) [keyOf X o]).1) L U:=k1.rows rfl;split
   · rename_i he
     exact k2.gone (g.cut hX ho) (X:=X.cut o) (bW.2 (.inl ⟨rfl,X,hX,rfl⟩)) he
   · exact k2
theorem vK {x:Nat} (e:(x::V).Perm U) (p:Nat→Bool) (h:p x=false):(U.filter p).Perm (V.filter p):=by
 have:=(e.filter p).symm
 rwa [List.filter_cons_of_neg (by simp [h])] at this
theorem nC {x:Nat} (e:(x::V).Perm U) (p:Nat→Bool) (h:p x=true):(U.filter p).Perm (x::V.filter p):=by
 have:=(e.filter p).symm
 rwa [List.filter_cons_of_pos h] at this
theorem HU.back (g:aO H) (h:HU H L U) (hX:X∈H.B) (ho:o∈X.L) {x:Nat} (e:(x::V).Perm U) (hr:dR o.P x=true) (hL:Agree L L' [x]) (hg:aJ L' (bg o.P x).1):
 bg o.P x=({o.P with G:=x::o.P.G,used:=o.P.used-1},0)∧HU (H.eu (X.put o.pp (bg o.P x).1)) L' V:=by
 obtain ⟨k1,P,k2⟩:=h.wh X hX o ho;obtain ⟨f1,f2⟩:=(k2.perm (nC e _ hr)).free k1 hL;have hn:=(e.nodup_iff).2 h.nd;rw [List.nodup_cons] at hn;have hb:=(k2.perm (nC e _ hr)).zO x (List.mem_cons_self ..);have hfit:=hb.fits k1.made (Nat.le_refl (o.P.f+o.P.n*o.P.s));have Uq:=k1.s16;have hr':=iy.1 hr;refine ⟨f1, ?_⟩;rw [f1] at hg⊢;refine h.turn g hX ho ⟨rfl,rfl,rfl⟩ hL (fun y hy=> ?_) hg (P:=P) f2 hn.2 (fun y hy=> .inl (e.mem_iff.1 (List.mem_cons_of_mem _ hy))) fun Q hQ=>vK e _ ?_
 · rw [List.mem_singleton.1 hy];exact ⟨hr'.1,by omega⟩
 · cases hc:dR Q x with
   |false=>rfl
   |true=>have:=iy.1 hc;omega
theorem HU.free (g:aO H) (h:HU H L U) {x:Nat} (e:(x::V).Perm U) (hL:Agree L L' [x]) (hg: ∀X∈H.B,∀o∈X.L,dR o.P x=true→aJ L' (bg o.P x).1):(fJ H A x).2=0∧HU (fJ H A x).1.1 L' V:=by
 have hx:x∈U:=e.mem_iff.1 (List.mem_cons_self ..);obtain ⟨X,hX,o,ho,hb,hf⟩:=h.blk g hx;have k1:=(h.wh X hX o ho).1;have hr:dR o.P x=true:=uD hb k1.made k1.s16;obtain ⟨f1,f2⟩:=h.back g hX ho e hr hL (hg X hX o ho hr);unfold fJ;rw [hf];simp only [];rw [if_neg (by rw [f1];exact fun y=>y rfl)];refine ⟨rfl, ?_⟩;have hw:HU (lG H X o (bg o.P x).1) L' V:=f2.rows rfl;exact hw.tidy (l8 g hX ho (qM o.P x)) (bW.2 (.inl ⟨rfl,X,hX,rfl⟩)) (mV ho _)
theorem HU.ZI (g:aO H) (h:HU H L U) (hX:X∈H.B) (ho:o∈X.L) {P Y:List Nat} (hP:Wh L o.P (U.filter (dR o.P)) P) (hL:Agree L L' Y) (hY: ∀y∈Y,y∈P) (hg:aJ L' (iB o.P P)):HU (jR H A X o P).1 L' U:=by
 have k1:=(h.wh X hX o ho).1;have ht:HU (H.eu (X.put o.pp (iB o.P P))) L' U:=by
  refine h.turn g hX ho ⟨rfl,rfl,rfl⟩ hL (fun y hy=> ?_) hg (P:= []) hP.gather h.nd (fun y hy=> .inl hy) fun Q hQ=>List.Perm.refl _;have hb:=hP.zP y (hY y hy);have hfit:=hb.fits k1.made (Nat.le_refl (o.P.f+o.P.n*o.P.s));have Uq:=k1.s16;obtain ⟨i,_,e⟩:=hb;exact ⟨by omega,by omega⟩
 unfold jR;split
 · exact ht.tidy (g.put hX ho (S:=iB o.P P) ⟨rfl,rfl,rfl⟩) (bW.2 (.inl ⟨rfl,X,hX,rfl⟩)) (mV ho _)
 · have hw:HU (lG H X o (iB o.P P)) L' U:=ht.rows rfl
   exact hw.tidy (l8 g hX ho (S:=iB o.P P) ⟨rfl,rfl,rfl⟩) (bW.2 (.inl ⟨rfl,X,hX,rfl⟩)) (mV ho _)
theorem HU.write (g:aO H) (h:HU H L U) (hX:X∈H.B) (ho:o∈X.L) {x:Nat} (hx:x∈U) (hb:bO o.P.f o.P.s o.P.made x) (hl:L'.length=L.length) (hw: ∀i,i<x∨x+o.P.s≤i→L'.getD i 0=L.getD i 0):HU H L' U:=by
 have ko:=(h.wh X hX o ho).1;have hs:=ko.s16;have hfit:=hb.fits ko.made (Nat.le_refl (o.P.f+o.P.n*o.P.s));have hfx:o.P.f≤x:=by obtain ⟨i,_,e⟩:=hb;omega
 have ha:Agree L L' ((List.range (o.P.s-7)).map fun j=>x+j):=⟨hl,fun i hi=>hw i (by
  rcases Nat.lt_or_ge i x with h1|h1
  · exact .inl h1
  · rcases Nat.lt_or_ge i (x+o.P.s) with h2|h2
    · exfalso
      obtain ⟨j,hj,hij⟩: ∃j,j<o.P.s-7∧x+j≤i∧i<x+j+8:=⟨min (i-x) (o.P.s-8),by omega,by omega⟩;have:=hi (x+j) (List.mem_map.2 ⟨j,List.mem_range.2 hj,rfl⟩);omega
    · exact .inr h2)⟩
 have hY: ∀y∈((List.range (o.P.s-7)).map fun j=>x+j),x≤y∧y+8≤x+o.P.s:=fun y hy=>by
  obtain ⟨j,hj,rfl⟩:=List.mem_map.1 hy;have:=List.mem_range.1 hj;omega
 have far: ∀b,bO o.P.f o.P.s o.P.made b→b≠x→ ∀y∈((List.range (o.P.s-7)).map fun j=>x+j),g_ y b:=fun b hbb hne y hy=>by
  have:=hbb.apart hb hne;have:=hY y hy;unfold g_;omega
 refine ⟨fun Z hZ z hz=> ?_,h.at',h.nd⟩;obtain ⟨k1,P,k2⟩:=h.wh Z hZ z hz;by_cases e:X=Z∧o=z
 · obtain ⟨rfl,rfl⟩:=e
   have hxf:x∈U.filter (dR o.P):=List.mem_filter.2 ⟨hx,uD hb k1.made hs⟩;have hne:=k2.ne.1 x hxf;exact ⟨⟨k1.f0,k1.s16,k1.n1,k1.n2,by rw [ha.1];exact k1.fit,by rw [ha.1];exact k1.big,k1.made,Chain.agree ha k1.cF fun b hb2 y hy=>far b (k1.FW b hb2) (fun e=>hne.1 (e▸hb2)) y hy,Chain.agree ha k1.cG fun b hb2 y hy=>far b (k1.EB b hb2) (fun e=>hne.2.1 (e▸hb2)) y hy,k1.FW,k1.EB,k1.nd⟩,
    P,⟨Chain.agree ha k2.cP fun b hb2 y hy=>far b (k2.zP b hb2) (fun e=>hne.2.2 (e▸hb2)) y hy,k2.zP,k2.zO,k2.nd,k2.add,k2.use⟩⟩
 · have hap:=qC g hX ho hZ hz e
   have ZF: ∀y∈((List.range (o.P.s-7)).map fun j=>x+j),y+8≤z.P.f∨z.P.f+z.P.n*z.P.s≤y:=fun y hy=>by have:=hY y hy;omega
   exact ⟨aJ.Ja k1 ha ZF,P,Wh.aside k1 k2 ha ZF⟩
theorem HU.post (g:aO H) (h:HU H L U) (hX:X∈H.B) (ho:o∈X.L) {x:Nat} (e:(x::V).Perm U) (hr:dR o.P x=true) (hg:aJ (ay.iC L x o.P.cw) (o.P.wrote x)):HU (H.eu (X.put o.pp (o.P.wrote x))) (ay.iC L x o.P.cw) V:=by
 obtain ⟨k1,P,k2⟩:=h.wh X hX o ho;have k3:=k2.perm (nC e _ hr);have hb:=k3.zO x (List.mem_cons_self ..);have hfit:=hb.fits k1.made (Nat.le_refl (o.P.f+o.P.n*o.P.s));have Uq:=k1.s16;have hr':=iy.1 hr;have hn:=(e.nodup_iff).2 h.nd;rw [List.nodup_cons] at hn;have hgf:=k1.fit;refine h.turn g hX ho ⟨rfl,rfl,rfl⟩ (Agree.put (by omega)) (fun y hy=> ?_) hg (P:=x::P) (k3.post k1) hn.2 (fun y hy=> .inl (e.mem_iff.1 (List.mem_cons_of_mem _ hy))) fun Q hQ=>vK e _ ?_
 · rw [List.mem_singleton.1 hy];exact ⟨hr'.1,by omega⟩
 · cases hc:dR Q x with
   |false=>rfl
   |true=>have:=iy.1 hc;omega
end
end Go.Proofs.YtpibbcnkgdmcbaaGreatDoor.aD
namespace Go.Proofs.YtpibbcnkgdmcbaaGreatDoor.aD
open aC aG aF au aI aB
open aA (St reserve release)
section
variable {H:HS} {L L' U V:List Nat} {X:SG} {o:bY} {A:St}
theorem HU.still (h:HU H L U) (e:Agree L L' []):HU H L' U:=
 ⟨fun X hX o ho=>by
  obtain ⟨k1,P,k2⟩:=h.wh X hX o ho;exact ⟨aJ.Ja k1 e (fun y hy=>by cases hy),P,Wh.aside k1 k2 e (fun y hy=>by cases hy)⟩,h.at',h.nd⟩
theorem rW (g:aO H) (c:Int):
 (0≤c∧c<12∧ ∃H1 X o,H1.B=H.B∧aO H1∧X∈H.B∧o∈X.L∧qi o.cls=qi c∧(aP o.P).2.2=0∧bF H c=(H1.eu (X.put o.pp (aP o.P).1),(aP o.P).2.1,0,b_ o.P))∨
 (∃H1 e,H1.B=H.B∧aO H1∧e≠0∧bF H c=(H1,0,e, [])):=by
 unfold bF;by_cases hc:c<0∨12≤c
 · rw [if_pos hc];exact .inr ⟨H,2,rfl,g,by decide,rfl⟩
 · rw [if_neg hc]
   rcases qw (c:=c) _ g (OY g (qi c)) with ⟨H1,X,o,h⟩|⟨H1,h1,h2,h3,_⟩
   · exact .inl ⟨by omega,by omega,H1,X,o,h⟩
   · exact .inr ⟨H1,4,h1,h2,by decide,h3⟩
theorem HU.local' (g:aO H) (h:HU H L U) (c:Int) (hL:Agree L L' (bF H c).2.2.2) (hg: ∀X∈(bF H c).1.B,∀o∈X.L,aJ L' o.P):
 ((bF H c).2.2.1=0∧(bF H c).2.1∉U∧HU (bF H c).1 L' (U++ [(bF H c).2.1])∧ ∃X∈(bF H c).1.B,∃o∈X.L,qi o.cls=qi c∧bO o.P.f o.P.s o.P.made (bF H c).2.1)∨
 ((bF H c).2.2.1≠0∧(bF H c).2.1=0∧(bF H c).1.B=H.B∧HU (bF H c).1 L' U):=by
 rcases rW g c with ⟨_,_,H1,X,o,h1,h2,h3,h4,h5,h6,e⟩|⟨H1,e0,h1,h2,h3,e⟩
 · rw [e] at hL hg⊢
   have h3':X∈H1.B:=by rw [h1];exact h3
   have hin:({o with P:=(aP o.P).1}:bY)∈(X.put o.pp (aP o.P).1).L:=mV h4 _;have hX':X.put o.pp (aP o.P).1∈(H1.eu (X.put o.pp (aP o.P).1)).B:=bW.2 (.inl ⟨rfl,X,h3',rfl⟩);obtain ⟨k1,k2,k3,_⟩:=(h.rows h1).alloc h2 h3' h4 h6 hL (hg _ hX' _ hin);refine .inl ⟨rfl,k2,k1,_,hX',_,hin,h5, ?_⟩;show bO (aP o.P).1.f (aP o.P).1.s _ _;have hs:(aP o.P).1.f=o.P.f∧(aP o.P).1.s=o.P.s:=by
    cases hF:(aW o.P).F with
    |nil=>rw [jw hF];exact ⟨rfl,rfl⟩
    |cons a t=>
     rw [iN hF];show (aW o.P).f=_∧(aW o.P).s=_;unfold aW;split
     · exact ⟨rfl,rfl⟩
     · split<;>exact ⟨rfl,rfl⟩
   rw [hs.1,hs.2];exact k3
 · rw [e] at hL⊢
   exact .inr ⟨h3,rfl,h1,(h.rows h1).still hL⟩
theorem vI {f s n:Nat} (h:1≤n):aP (fresh f s n 0)=(fresh f s n 1,f,0):=by
 have k:=EP (f:=f) (s:=s) (n:=n) (i:=0) (by omega);generalize aP (fresh f s n 0)=z at k⊢
 rw [k];have e:f+0*s=f:=by omega
 rw [e]
theorem HU.fresh' (g:aO H) (h:HU H L U) {op pp a sl:Nat} {c:Int} (hX:X∈H.B) (hb: ¬eX c (sl:Int)) (ha:aj.low X.K (dZ c sl)=some a) (hp: ∀o∈X.L,o.pp≠pp)
 (hL:Agree L L' (b_ (bR (aL X.pl a) (bQ c sl) (h_ c)))) (hg: ∀X'∈(jM H X op pp c sl a).B,∀o∈X'.L,aJ L' o.P) (hlen:(X.pl+1)*16384≤L.length) (hbig:L.length≤1048576):
 aL X.pl a∉U∧HU (jM H X op pp c sl a) L' (U++ [aL X.pl a])∧ ∃Z∈(jM H X op pp c sl a).B,∃o∈Z.L,o.cls=c∧o.P.s=bQ c sl∧bO o.P.f o.P.s o.P.made (aL X.pl a):=by
 obtain ⟨p1,p2,p3,p4⟩:=planned hb;have hlow:=aj.jc p1 ha;have hfree:=(g.seg X hX).g.free p1 hlow.1;obtain ⟨k1,k2⟩:=g.add hX p1 hlow.1 (p4 op pp a (aL X.pl a)) hp;have hsz:=(p4 op pp a (aL X.pl a)).size p1;have hlo: ∀x∈X.L,x.lo≠a:=fun x hx=>by have:=hfree.2.2 x hx;have:=((g.seg X hX).g.fit x hx).2.1;omega
 have hmem: ∀x,x∈(X.add op pp c a (dZ c sl) (h_ c) (bQ c sl)).L↔x=⟨op,pp,c,a,dZ c sl,bR (aL X.pl a) (bQ c sl) (h_ c)⟩∨x∈X.L:=fun x=>by
  show x∈ni X.L _↔_;rw [fZ];exact ⟨fun h=>h.imp id fun h=>h.1,fun h=>h.imp id fun h=>⟨h,hlo x h⟩⟩
 have hin:X.add op pp c a (dZ c sl) (h_ c) (bQ c sl)∈((H.eu (X.add op pp c a (dZ c sl) (h_ c) (bQ c sl))).mQ c (bK (H.Q (qi c)) [iH X.pl a]).1).B:=bW.2 (.inl ⟨rfl,X,hX,rfl⟩);have ho:(⟨op,pp,c,a,dZ c sl,bR (aL X.pl a) (bQ c sl) (h_ c)⟩:bY)∈(X.add op pp c a (dZ c sl) (h_ c) (bQ c sl)).L:=(hmem _).2 (.inl rfl);have hs1:16≤bQ c sl∧h_ c≤64∧h_ c*bQ c sl≤dZ c sl*1024:=⟨hsz.1,hsz.2.2.1,hsz.2.2.2⟩;have hgn:aJ L (bR (aL X.pl a) (bQ c sl) (h_ c)):=aJ.new (by unfold aL;omega) hs1.1 p3 (by omega) (by unfold aL;omega) hbig;have hno: ∀x∈U,dR (bR (aL X.pl a) (bQ c sl) (h_ c)) x=false:=fun x hx=>by
  cases hc:dR (bR (aL X.pl a) (bQ c sl) (h_ c)) x with
  |false=>rfl
  |true=>
   have h1:=iy.1 hc;change aL X.pl a≤x∧x<aL X.pl a+h_ c*bQ c sl at h1;obtain ⟨Z,hZ,z,hz,hr⟩:=h.at' x hx;have h2:=iy.1 hr;have h3:=(g.seg Z hZ).g.within hz;have h4:=(g.seg Z hZ).g.fit z hz;unfold aL at h1 h3;by_cases e:Z.pl=X.pl
   · have:=iI g.jK hZ hX e
     subst this;have:=hfree.2.2 z hz;omega
   · omega
 have h1:HU ((H.eu (X.add op pp c a (dZ c sl) (h_ c) (bQ c sl))).mQ c (bK (H.Q (qi c)) [iH X.pl a]).1) L U:=by
  refine ⟨fun Z hZ z hz=> ?_,fun x hx=> ?_,h.nd⟩
  · rcases bW.1 hZ with ⟨rfl,_⟩|⟨hZ,_⟩
    · rcases (hmem z).1 hz with rfl|hz
      · refine ⟨hgn, [], ?_⟩
        have e:U.filter (dR (bR (aL X.pl a) (bQ c sl) (h_ c)))= []:=List.filter_eq_nil_iff.2 fun x hx=>by rw [hno x hx];simp
        show Wh L _ (U.filter (dR (bR (aL X.pl a) (bQ c sl) (h_ c)))) [];rw [e];exact Wh.new L _ _ _
      · exact h.wh X hX z hz
    · exact h.wh Z hZ z hz
  · obtain ⟨Z,hZ,z,hz,hr⟩:=h.at' x hx
    by_cases e:Z.pl=X.pl
    · have:=iI g.jK hZ hX e
      subst this;exact ⟨_,hin,z,(hmem z).2 (.inr hz),hr⟩
    · exact ⟨Z,bW.2 (.inr ⟨hZ,e⟩),z,hz,hr⟩
 have hal:aP (bR (aL X.pl a) (bQ c sl) (h_ c))=(fresh (aL X.pl a) (bQ c sl) (h_ c) 1,aL X.pl a,0):=by
  rw [←yO];exact vI p3
 have hB:(jM H X op pp c sl a).B=(((H.eu (X.add op pp c a (dZ c sl) (h_ c) (bQ c sl))).mQ c (bK (H.Q (qi c)) [iH X.pl a]).1).eu (gV X op pp c sl a)).B:=by
  show (H.B.map _)=(H.B.map _).map _;rw [List.map_map];refine List.map_congr_left fun Y hY=> ?_;show (if Y.pl=X.pl then gV X op pp c sl a else Y)=if (if Y.pl=X.pl then X.add op pp c a (dZ c sl) (h_ c) (bQ c sl) else Y).pl=X.pl then gV X op pp c sl a else if Y.pl=X.pl then X.add op pp c a (dZ c sl) (h_ c) (bQ c sl) else Y
  by_cases e:Y.pl=X.pl
  · rw [if_pos e,if_pos e];exact (if_pos rfl).symm
  · rw [if_neg e,if_neg e,if_neg e]
 have Qv:gV X op pp c sl a∈(jM H X op pp c sl a).B:=by rw [hB];exact bW.2 (.inl ⟨rfl,_,hin,rfl⟩)
 have Zl:(⟨op,pp,c,a,dZ c sl,fresh (aL X.pl a) (bQ c sl) (h_ c) 1⟩:bY)∈(gV X op pp c sl a).L:=mV ho _;obtain ⟨j1,j2,j3,_⟩:=h1.alloc k1 hin ho (by rw [hal]) hL (by rw [hal];exact hg _ Qv _ Zl);rw [hal] at j1 j2 j3;exact ⟨j2,j1.rows hB,_,Qv,_,Zl,rfl,rfl,j3⟩
theorem HU.grow (h:HU H L U) {id:Nat} (e:Agree L L' []):HU (cZ H A id).1 L' U:=by
 unfold cZ;split
 · exact h.still e
 · have h':=h.still e
   refine ⟨fun Z hZ z hz=> ?_,fun x hx=> ?_,h.nd⟩
   · rcases List.mem_append.1 hZ with hZ|hZ
     · exact h'.wh Z hZ z hz
     · rw [List.mem_singleton.1 hZ] at hz;cases hz
   · obtain ⟨Z,hZ,k⟩:=h.at' x hx
     exact ⟨Z,List.mem_append_left _ hZ,k⟩
end
end Go.Proofs.YtpibbcnkgdmcbaaGreatDoor.aD
