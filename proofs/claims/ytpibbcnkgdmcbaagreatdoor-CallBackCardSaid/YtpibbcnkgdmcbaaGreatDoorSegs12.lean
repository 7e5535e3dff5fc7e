/- Segs12: texts of layers below, joined (SegA SegB SegC SegD SegE SegF SegG SegH). -/
import Derived.Test.YtpibbcnkgdmcbaaGreatDoorSegCl
import Derived.Test.YtpibbcnkgdmcbaaGreatDoorSegm12
import Derived.Test.YtpibbcnkgdmcbaaGreatDoorMarks12
import Derived.Test.YtpibbcnkgdmcbaaGreatDoorCells12
import Derived.Test.YtpibbcnkgdmcbaaGreatDoorGeos12
import Derived.Test.YtpibbcnkgdmcbaaGreatDoorMaths12
import Derived.Deep.RegionLaw
import Derived.Deep.RegionHeld3
import Derived.Test.YtpibbcnkgdmcbaaGreatDoorClasses12
import Derived.Test.YtpibbcnkgdmcbaaGreatDoorKn
set_option linter.unusedVariables false
set_option maxRecDepth 100000
set_option maxHeartbeats 2000000
namespace Go.Proofs.YtpibbcnkgdmcbaaGreatDoor
open Go.RowKit aC aF aG aI au
def CZ (p k pl ow ot oa:Nat) (f:Nat→Value):Array Value:= #[.pointer (some ⟨p,0,none⟩), .int .i64 (pl:Int), .int .u64 (ow:Int), .int .u64 ((ot%18446744073709551616:Nat):Int), .int .i64 (wrap64 (oa:Int)), .pointer (some ⟨k,0,none⟩),f 0,f 1,f 2,f 3,f 4,f 5,f 6,f 7,f 8,f 9,f 10,f 11,f 12,f 13,f 14,f 15]
theorem Jt (p k pl ow ot oa:Nat) (f:Nat→Value) {i:Nat} (hi:i<16) (v:Value):(CZ p k pl ow ot oa f).setIfInBounds (6+i) v=CZ p k pl ow ot oa (fun j=>if j=i then v else f j):=by
 rcases i with _|_|_|_|_|_|_|_|_|_|_|_|_|_|_|_|i
 all_goals first|rfl|omega
theorem Bv (p k pl ow ot oa:Nat) (f:Nat→Value) {i:Nat} (hi:i<16):(CZ p k pl ow ot oa f)[6+i]? =some (f i):=by
 rcases i with _|_|_|_|_|_|_|_|_|_|_|_|_|_|_|_|i
 all_goals first|rfl|omega
theorem lK (p k pl ow ot oa:Nat) {f g:Nat→Value} (h: ∀i,i<16→f i=g i):CZ p k pl ow ot oa f=CZ p k pl ow ot oa g:=by
 unfold CZ;rw [h 0 (by decide),h 1 (by decide),h 2 (by decide),h 3 (by decide),h 4 (by decide),h 5 (by decide),h 6 (by decide),h 7 (by decide),h 8 (by decide),h 9 (by decide),h 10 (by decide),h 11 (by decide),h 12 (by decide),h 13 (by decide),h 14 (by decide),h 15 (by decide)]
theorem Ac {t:TypeId} {sp p k pl ow ot oa:Nat} (v:Value): ∀(n a:Nat) (f:Nat→Value) (w:World),aV w sp t (CZ p k pl ow ot oa f)→a+n≤16→
 aV (w.setCells sp (6+a) (List.replicate n v)) sp t (CZ p k pl ow ot oa fun j=>if a≤j∧j<a+n then v else f j)
 |0,a,f,w,h,_=>by
  rw [lK (g:=f) p k pl ow ot oa fun i _=>if_neg (by omega)];exact h
 |n+1,a,f,w,h,hl=>by
  have h1:=h.put (6+a) v;rw [Jt _ _ _ _ _ _ _ (by omega)] at h1;have h2:=Ac v n (a+1) _ _ h1 (by omega);rw [List.replicate_succ,World.setCells];rw [lK (g:=fun j=>if a≤j∧j<a+(n+1) then v else f j) p k pl ow ot oa fun i _=>by
   by_cases e1:i=a
   · subst e1;simp
   · by_cases e2:a+1≤i∧i<a+1+n
     · rw [if_pos e2,if_pos (by omega)]
     · rw [if_neg e2,if_neg e1,if_neg (by omega)]] at h2
  exact h2
def wH (X:SG) (hb:Nat→Nat) (i:Nat):Value:= .pointer ((zB X i).map fun o=>⟨hb o.lo,0,none⟩)
def hdA (o:bY):Array Value:= #[.pointer (some ⟨o.pp,0,none⟩), .int .i64 o.cls, .int .i64 (o.lo:Int), .int .i64 (o.wd:Int), .pointer (some ⟨o.op,0,none⟩)]
structure mH (w:World) (sp p:Nat) (I:Nat→Prop) (c:Addr) (X:SG) (k gk:Nat) (hb:Nat→Nat):Prop where
 B:aV w sp 174 (CZ p k X.pl X.ow X.ot X.oa (wH X hb))
 M:Mk.aU w k 0 gk X.K
 hd: ∀o∈X.L,aV w (hb o.lo) 207 (hdA o)
 nI: ∀b,I b↔(b=sp∨b=k∨b=gk∨ ∃o∈X.L,b=hb o.lo)
 c:c=⟨sp,2,none⟩
 ow:X.ow≤18446744073709551615
 nk:sp≠k
 ng:sp≠gk
 nh: ∀o∈X.L,hb o.lo≠sp∧hb o.lo≠k∧hb o.lo≠gk
def nL:Vl:=fun w sp p I c X=> ∃k gk hb,mH w sp p I c X k gk hb
theorem Un (X:SG) (pp:Nat) (S:PG) (i:Nat):zB (X.put pp S) i=(zB X i).map fun o=>if o.pp=pp then {o with P:=S} else o:=by
 unfold zB;show (X.L.map _).find? _=_;rw [List.find?_map]
 congr 2
 funext o
 obtain ⟨e1,e2,_⟩:=dL o pp S;show (decide ((if o.pp=pp then {o with P:=S} else o).lo≤i)&&decide (i<(if o.pp=pp then {o with P:=S} else o).lo+(if o.pp=pp then {o with P:=S} else o).wd))=_;rw [e1,e2]
theorem TW (X:SG) (pp:Nat) (S:PG) (hb:Nat→Nat) (i:Nat):wH (X.put pp S) hb i=wH X hb i:=by
 unfold wH;rw [Un,Option.map_map]
 congr 2
 funext o
 show (⟨hb (if o.pp=pp then {o with P:=S} else o).lo,0,none⟩:Addr)=_;rw [(dL o pp S).1]
section
variable {w w':World} {sp p:Nat} {I:Nat→Prop} {c:Addr} {X:SG} {k gk:Nat} {hb:Nat→Nat}
theorem mH.put (h:mH w sp p I c X k gk hb) (pp:Nat) (S:PG):mH w sp p I c (X.put pp S) k gk hb where
 B:=by
  have:=h.B;rw [lK (g:=wH (X.put pp S) hb) _ _ _ _ _ _ fun i _=>(TW X pp S hb i).symm] at this;exact this
 M:=h.M
 hd o ho:=by
  obtain ⟨y,hy,rfl⟩:=put_mem.1 ho;obtain ⟨e1,e2,e3,e4,e5⟩:=dL y pp S;unfold hdA;rw [e1,e2,e3,e4,e5];exact h.hd y hy
 nI b:=by
  rw [h.nI b];constructor
  · rintro (x|x|x|⟨o,ho,x⟩)
    · exact .inl x
    · exact .inr (.inl x)
    · exact .inr (.inr (.inl x))
    · refine .inr (.inr (.inr ⟨_,put_mem.2 ⟨o,ho,rfl⟩, ?_⟩))
      rw [(dL o pp S).1];exact x
  · rintro (x|x|x|⟨o,ho,x⟩)
    · exact .inl x
    · exact .inr (.inl x)
    · exact .inr (.inr (.inl x))
    · obtain ⟨y,hy,rfl⟩:=put_mem.1 ho
      rw [(dL y pp S).1] at x;exact .inr (.inr (.inr ⟨y,hy,x⟩))
 c:=h.c
 ow:=h.ow
 nk:=h.nk
 ng:=h.ng
 nh o ho:=by
  obtain ⟨y,hy,rfl⟩:=put_mem.1 ho;rw [(dL y pp S).1];exact h.nh y hy
theorem mH.Uk (h:mH w sp p I c X k gk hb):I sp:=(h.nI _).2 (.inl rfl)
theorem mH.ik (h:mH w sp p I c X k gk hb):I k:=(h.nI _).2 (.inr (.inl rfl))
theorem mH.ig (h:mH w sp p I c X k gk hb):I gk:=(h.nI _).2 (.inr (.inr (.inl rfl)))
theorem mH.ih (h:mH w sp p I c X k gk hb) {o:bY} (ho:o∈X.L):I (hb o.lo):=(h.nI _).2 (.inr (.inr (.inr ⟨o,ho,rfl⟩)))
theorem mH.upd {T:Nat→Prop} (h:mH w sp p I c X k gk hb) (u:aH T w w') (hT: ∀b,T b→ ¬I b):mH w' sp p I c X k gk hb:=
 ⟨h.B.upd u fun x=>hT _ x h.Uk,h.M.upd u (fun x=>hT _ x h.ik) (fun x=>hT _ x h.ig),fun o ho=>(h.hd o ho).upd u fun x=>hT _ x (h.ih ho),h.nI,h.c,h.ow,h.nk,h.ng,h.nh⟩
theorem mH.grew (h:mH w sp p I c X k gk hb) (b:Below w.heap.size w w'):mH w' sp p I c X k gk hb:=h.upd (ak b) fun _ x=>x.elim
theorem mH.lt (h:mH w sp p I c X k gk hb) {b:Nat} (hI:I b):b<w.heap.size:=by
 rcases (h.nI b).1 hI with rfl|rfl|rfl|⟨o,ho,rfl⟩
 · exact h.B.lt
 · exact h.M.lt
 · exact h.M.row.lt
 · exact (h.hd o ho).lt
theorem mH.c0 (h:mH w sp p I c X k gk hb):w.cell? ⟨sp,0,none⟩=some (.pointer (some ⟨p,0,none⟩)):=h.B.cell 0
theorem mH.c1 (h:mH w sp p I c X k gk hb):w.cell? ⟨sp,1,none⟩=some (.int .i64 (X.pl:Int)):=h.B.cell 1
theorem mH.c5 (h:mH w sp p I c X k gk hb):w.cell? ⟨sp,5,none⟩=some (.pointer (some ⟨k,0,none⟩)):=h.B.cell 5
theorem mH.con (h:mH w sp p I c X k gk hb) {i:Nat} (hi:i<16):w.cell? ⟨sp,6+i,none⟩=some (wH X hb i):=by rw [h.B.cell,Bv _ _ _ _ _ _ _ hi]
theorem mH.post (h:mH w sp p I c X k gk hb):CC w sp 2 X.ow (X.ot%18446744073709551616) (wrap64 (X.oa:Int)):=⟨_,_,h.B,rfl,rfl,rfl⟩
end
theorem aH.same {w w':World} {g:Nat} {t:TypeId} {cs:Array Value} (u:aH (fun b=>b=g) w w') (h:aV w g t cs) (h':aV w' g t cs):Below w.heap.size w w':=
 ⟨u.os,u.tape,u.output,u.size,fun k hk=>by
  by_cases e:k=g
  · subst e;exact h'.trans h.symm
  · exact u.block k hk e⟩
theorem E_ (w:World) {h pp op:Nat} {cls:Int} {lo wd:Nat} {cs:Array Value} (hh:aV w h 207 #[.pointer (some ⟨pp,0,none⟩), .int .i64 cls, .int .i64 (lo:Int), .int .i64 (wd:Int), .pointer (some ⟨op,0,none⟩)]) (ho:aV w op 100 cs) (hs:cs.size=4) (hne:op≠h):
 Calls Tryz.prog 104 #[.pointer (some ⟨h,0,none⟩)] w fun e w'=>e= .returned (.pointer (some ⟨op,0,none⟩))∧aV w' op 100 #[.pointer (some ⟨pp,0,none⟩), .int .i64 cls, .int .i64 (lo:Int), .int .i64 (wd:Int)]∧aH (fun b=>b=op) w w':=by
 obtain ⟨v0,v1,v2,v3,rfl⟩: ∃v0 v1 v2 v3,cs= #[v0,v1,v2,v3]:=by
  rcases cs with ⟨_|⟨a,_|⟨b,_|⟨c,_|⟨d,_|⟨e,t⟩⟩⟩⟩⟩⟩
  all_goals first|(simp at hs;done)|skip
  exact ⟨a,b,c,d,rfl⟩
 have h0:w.cell? ⟨h,0,none⟩=some (.pointer (some ⟨pp,0,none⟩)):=hh.cell 0;have h1:w.cell? ⟨h,1,none⟩=some (.int .i64 cls):=hh.cell 1;have h2:w.cell? ⟨h,2,none⟩=some (.int .i64 (lo:Int)):=hh.cell 2;have h3:w.cell? ⟨h,3,none⟩=some (.int .i64 (wd:Int)):=hh.cell 3;have h4:w.cell? ⟨h,4,none⟩=some (.pointer (some ⟨op,0,none⟩)):=hh.cell 4;have o0:w.cell? ⟨op,0,none⟩=some v0:=ho.cell 0;have o1:w.cell? ⟨op,1,none⟩=some v1:=ho.cell 1;have o2:w.cell? ⟨op,2,none⟩=some v2:=ho.cell 2;have o3:w.cell? ⟨op,3,none⟩=some v3:=ho.cell 3;have f0:=ho.frozen 0;have f1:=ho.frozen 1;have f2:=ho.frozen 2;have f3:=ho.frozen 3;have HH:=Lib.hid hh;have HO:=Lib.hid ho;clear hh ho hs;go_enter Tryz.func104,Tryz.ntmps104
 go_wp2
 go_region
 have n2:=(((HO.out.put 0 (.pointer (some ⟨pp,0,none⟩))).put 1 (.int .i64 cls)).put 2 (.int .i64 (lo:Int))).put 3 (.int .i64 (wd:Int));have k2:=(((HH.out.far (p:=⟨op,0,none⟩) (fun e=>hne e.symm) (.pointer (some ⟨pp,0,none⟩))).far (p:=⟨op,1,none⟩) (fun e=>hne e.symm) (.int .i64 cls)).far (p:=⟨op,2,none⟩) (fun e=>hne e.symm) (.int .i64 (lo:Int))).far (p:=⟨op,3,none⟩) (fun e=>hne e.symm) (.int .i64 (wd:Int));have u2:=((((aH.refl (fun b=>b=op) w).setCell (p:=⟨op,0,none⟩) (.inl rfl) (.pointer (some ⟨pp,0,none⟩))).setCell (p:=⟨op,1,none⟩) (.inl rfl) (.int .i64 cls)).setCell (p:=⟨op,2,none⟩) (.inl rfl) (.int .i64 (lo:Int))).setCell (p:=⟨op,3,none⟩) (.inl rfl) (.int .i64 (wd:Int));have n3:=n2.drew;have k3:=k2.drew;have u3:=u2.drew;clear n2 k2 u2 h0 h1 h2 h3 h4 o0 o1 o2 o3 f0 f1 f2 f3;generalize ((((w.setCell ⟨op,0,none⟩ (.pointer (some ⟨pp,0,none⟩))).setCell ⟨op,1,none⟩ (.int .i64 cls)).setCell ⟨op,2,none⟩ (.int .i64 (lo:Int))).setCell ⟨op,3,none⟩ (.int .i64 (wd:Int))).drew=W at n3 k3 u3⊢
 have h4:W.cell? ⟨h,4,none⟩=some (.pointer (some ⟨op,0,none⟩)):=k3.cell 4;go_wp2;go_ret;exact ⟨rfl,n3,u3⟩
theorem AZ (w:World) {h:Nat} {o:bY} (hh:aV w h 207 (hdA o)) (ho:aV w o.op 100 (Px o)):
 Calls Tryz.prog 104 #[.pointer (some ⟨h,0,none⟩)] w fun e w'=>e= .returned (.pointer (some ⟨o.op,0,none⟩))∧Below w.heap.size w w':=
 (E_ w hh ho rfl (ho.ne hh (by decide))).mono fun e w' ⟨h1,h2,h3⟩=>⟨h1,h3.same ho h2⟩
section
variable {w:World} {sp p:Nat} {I:Nat→Prop} {c:Addr} {X:SG} {k gk:Nat} {hb:Nat→Nat}
theorem OB (h:mH w sp p I c X k gk hb):Calls Tryz.prog 96 #[.pointer (some ⟨sp,0,none⟩)] w fun e w'=>e= .returned (.int .i64 (X.pl:Int))∧Below w.heap.size w w':=by
 have c1:=h.c1;clear h;go_enter Tryz.func96,Tryz.ntmps96
 go_wp2;go_ret;exact ⟨rfl,Below.refl _ _⟩
theorem OE (h:mH w sp p I c X k gk hb):Calls Tryz.prog 81 #[.pointer (some ⟨sp,0,none⟩)] w fun e w'=>e= .returned (.pointer (some c))∧Below w.heap.size w w':=by
 have hc:=h.c;have c2:w.cell? ⟨sp,2,none⟩=some (.int .u64 (X.ow:Int)):=h.B.cell 2;subst hc;clear h;go_enter Tryz.func81,Tryz.ntmps81
 go_wp2;go_ret;exact ⟨rfl,Below.refl _ _⟩
theorem Tg (h:mH w sp p I c X k gk hb):Calls Tryz.prog 160 #[.pointer (some ⟨sp,0,none⟩)] w fun e w'=>e= .returned (.int .i64 (aj.left X.K:Int))∧Below w.heap.size w w':=by
 have c5:=h.c5;have HL:=Lib.hid (Mk.Es h.M);clear h;go_enter Tryz.func160,Tryz.ntmps160
 go_wp2_with fail
 refine HL.out.mono ?_;rintro e w1 ⟨rfl,hb⟩;have B:=Lib.hid hb;clear hb;go_wp2;go_ret;exact ⟨rfl,B.out⟩
end
theorem Dt (w:World) {n:Int}:Calls Tryz.prog 152 #[.pointer none, .int .i64 n] w fun e w'=>e= .returned (.tuple #[.pointer none, .int .i64 1])∧Below w.heap.size w w':=by
 go_enter Tryz.func152,Tryz.ntmps152
 go_wp2
 go_ret2
 exact ⟨rfl,Below.refl _ _⟩
end Go.Proofs.YtpibbcnkgdmcbaaGreatDoor
namespace Go.Proofs.YtpibbcnkgdmcbaaGreatDoor
open Go.RowKit aC aF aG aI au
theorem Gl (w:World) {p g:Nat} {L:List Nat} {pl:Int} (hm:bC w p g L) (hl:L.length≤1048576) (hi:dH pl) (hp:pl<0∨(L.length:Int)<(pl+1)*16384):
 Calls Tryz.prog 126 #[.pointer (some ⟨p,0,none⟩), .int .i64 pl] w fun e w'=>e= .returned (.tuple #[.pointer none, .int .i64 2])∧Below w.heap.size w w':=by
 have hz:=lJ hm;obtain ⟨N,hN⟩: ∃N,L.length=N:=⟨_,rfl⟩;obtain ⟨Q,hQ⟩: ∃Q,N/16384=Q:=⟨_,rfl⟩;rw [hN] at hz hl hp;have HZ:=Lib.hid hz;obtain ⟨i1,i2⟩:=hi;have hdv:(N:Int)/16384=(Q:Int):=by omega
 have HQ:=Lib.hid hQ;clear hm hz hN;by_cases h0:pl<0
 · have t1:decide (pl<0)=true:=decide_eq_true h0
   clear hp h0;go_enter Tryz.func126,Tryz.ntmps126
   go_wp2
   go_ret2
   exact ⟨rfl,Below.refl _ _⟩
 · have t1:decide (pl<0)=false:=decide_eq_false h0
   obtain ⟨q,rfl⟩:=Int.eq_ofNat_of_zero_le (show 0≤pl by omega);have hw:IntKind.u64.wrap (q:Int)=(q:Int):=IntWalk.u64_in _ ⟨by omega,by omega⟩;have hwQ:IntKind.u64.wrap (Q:Int)=(Q:Int):=IntWalk.u64_in _ ⟨by omega,by omega⟩;have t2:decide ((Q:Int)≤(q:Int))=true:=decide_eq_true (by omega);have t2':decide (Q≤q)=true:=decide_eq_true (by omega);clear hp h0 hQ hl;go_enter Tryz.func126,Tryz.ntmps126
   go_wp2_with fail
   refine HZ.out.mono ?_;rintro e w1 ⟨rfl,rfl⟩;go_wp2
   go_ret2
   exact ⟨rfl,Below.refl _ _⟩
theorem Aj:Mk.nU true (aj.rep 16 false) 0 1=PO∧Mk.nV true 6 (aj.rep 16 false) 0 1=0:=by decide
theorem Wy (w:World) {p g pl:Nat} {L:List Nat} (hm:bC w p g L) (hl:L.length≤1048576) (hp:(pl+1)*16384≤L.length):
 Calls Tryz.prog 126 #[.pointer (some ⟨p,0,none⟩), .int .i64 (pl:Int)] w fun e w'=> ∃sp c I,e= .returned (.tuple #[.pointer (some ⟨sp,0,none⟩), .int .i64 0])∧nL w' sp p I c (iY pl)∧(∀b,I b→w.heap.size≤b)∧Below w.heap.size w w':=by
 have hz:=lJ hm;obtain ⟨N,hN⟩: ∃N,L.length=N:=⟨_,rfl⟩;obtain ⟨Q,hQ⟩: ∃Q,N/16384=Q:=⟨_,rfl⟩;rw [hN] at hz hl hp;have HZ:=Lib.hid hz;have hdv:(N:Int)/16384=(Q:Int):=by omega
 have HN:=Lib.hid (Mk.BR 16 (by decide) (by decide) w);have hw:IntKind.u64.wrap (pl:Int)=(pl:Int):=IntWalk.u64_in _ ⟨by omega,by omega⟩;have t1:decide ((pl:Int)<0)=false:=decide_eq_false (by omega);have hwQ:IntKind.u64.wrap (Q:Int)=(Q:Int):=IntWalk.u64_in _ ⟨by omega,by omega⟩;have t2:decide ((Q:Int)≤(pl:Int))=false:=decide_eq_false (by omega);have t2':decide (Q≤pl)=false:=decide_eq_false (by omega);have hlt:=hm.head.lt;clear hm hl hz hN hQ hp;go_enter Tryz.func126,Tryz.ntmps126
 go_wp2_with fail
 refine HZ.out.mono ?_;rintro e w1 ⟨rfl,rfl⟩;go_wp2_with fail
 refine HN.out.mono ?_;rintro e w1 ⟨k,gk,rfl,hk,hk1,hk2,hu⟩;have hmk:=Mk.Eh hk 0 1 (by decide) (by decide);rw [Aj.1,Aj.2] at hmk;have HM:=Lib.hid hmk;have U1:=Lib.hid hu;have K1:=Lib.hid (And.intro hk1 hk2);clear hmk hk hu hk1 hk2;go_wp2_with fail
 refine HM.out.mono ?_;rintro e w2 ⟨rfl,hk,hu⟩;have M2:=Lib.hid hk;have b2:=(U1.out.step hu (fun i hi=> .inr (by rw [hi];exact K1.out.2))).below (fun _ h=>h.elim) (Nat.le_refl _);have B2:=Lib.hid b2;clear hk hu b2 hlt;go_wp2
 go_ret2
 have s2:=B2.out.size;have kl:=M2.out.lt;have gl:=M2.out.row.lt;have hin: ∀i,zB (iY pl) i=none:=fun i=>rfl;refine ⟨w2.heap.size,⟨w2.heap.size,2,none⟩,fun b=>b=w2.heap.size∨b=k∨b=gk∨ ∃o∈(iY pl).L,b=(fun _=>0:Nat→Nat) o.lo,rfl,⟨k,gk,fun _=>0, ?_⟩,fun b hb=> ?_,B2.out.alloc s2 _⟩
 · refine ⟨?_,M2.out.alloc _,(fun o h=>by cases h),fun b=>Iff.rfl,rfl,Nat.zero_le _,by omega,by omega,(fun o h=>by cases h)⟩
   have hA:CZ p k (iY pl).pl (iY pl).ow (iY pl).ot (iY pl).oa (wH (iY pl) fun _=>0)= #[.pointer (some ⟨p,0,none⟩), .int .i64 (pl:Int), .int .u64 0, .int .u64 0, .int .i64 0, .pointer (some ⟨k,0,none⟩), .pointer none, .pointer none, .pointer none, .pointer none, .pointer none, .pointer none, .pointer none, .pointer none, .pointer none, .pointer none, .pointer none, .pointer none, .pointer none, .pointer none, .pointer none, .pointer none]:=by
    simp [CZ,wH,zB,iY,wrap64]
   rw [hA];exact aV.new w2 _ _
 · rcases hb with rfl|rfl|rfl|⟨o,h,_⟩
   · exact s2
   · exact K1.out.1
   · exact K1.out.2
   · cases h
theorem QF {X:SG} {a:Nat} (h: ¬(a<X.pl*16384∨X.pl*16384+16384≤a)):a/16384=X.pl∧a%16384/1024=(a-X.pl*16384)/1024∧(a-X.pl*16384)/1024<16:=by omega
theorem wF {w W:World} {x y z:Int} (h:w.alloc (.cells #[.int .i64 x, .int .i64 y, .int .u64 z] 129)=W):W.cell? ⟨w.heap.size,0,none⟩=some (.int .i64 x)∧W.cell? ⟨w.heap.size,1,none⟩=some (.int .i64 y)∧Below w.heap.size w W:=by
 subst h;exact ⟨(aV.new w _ _).cell 0,(aV.new w _ _).cell 1,(Below.refl _ w).alloc (Nat.le_refl _) _⟩
theorem Ti {w:World} {sp p g:Nat} {I:Nat→Prop} {c:Addr} {L:List Nat} {X:SG} {a:Nat} (h:Sg nL w sp p g I c L X) (ha:bM a):
 Calls Tryz.prog 67 #[.pointer (some ⟨sp,0,none⟩), .int .u64 (a:Int)] w fun e w'=>e= .returned (.tuple #[GI (bJ X a), .int .i64 (mq X a)])∧Below w.heap.size w w':=by
 obtain ⟨k,gk,hb,hI⟩:=h.int;have HA:=Lib.hid (Cx w a ha);have hpl:=h.pl;have SI:=Lib.hid hI;have SG:=Lib.hid h;unfold zL at HA;obtain ⟨P,hP⟩: ∃P,X.pl=P:=⟨_,rfl⟩;by_cases hr:a<X.pl*16384∨X.pl*16384+16384≤a
 ·
  have e1:bJ X a=none:=by unfold bJ;rw [if_pos hr]
  have e2:mq X a=3:=by unfold mq;rw [if_pos hr]
  rw [e1,e2];by_cases hm:a<1048576
  · rw [uT hm,uU hm] at HA
    have hne:a/16384≠X.pl:=by omega
    obtain ⟨x,hx⟩: ∃x,a/16384=x:=⟨_,rfl⟩;obtain ⟨y,hy⟩: ∃y,a%16384/1024=y:=⟨_,rfl⟩;obtain ⟨z,hz⟩: ∃z,a%1024=z:=⟨_,rfl⟩;rw [hx] at hne;rw [hx,hy,hz] at HA;rw [hP] at hne;have t1:((x:Int) !=(P:Int))=true:=by rw [bne_iff_ne];omega
    have HP:=Lib.hid hP;clear h hI hr e1 e2 hm hx hy hz hne ha hP;go_enter Tryz.func67,Tryz.ntmps67
    go_wp2_with fail
    refine HA.out.mono ?_;rintro e w1 ⟨rfl,hb1⟩;have B1:=Lib.hid hb1;have zF:=Lib.hid (SI.out.grew hb1);clear hb1;go_wp2;generalize hW:w1.alloc (.cells #[.int .i64 (x:Int), .int .i64 (y:Int), .int .u64 (z:Int)] 129)=W
    obtain ⟨q0,q1,hb2⟩:=wF hW;have B2:=Lib.hid (ah B1.out B1.out.size hb2);have c1:=(zF.out.grew hb2).c1;rw [HP.out] at c1;obtain ⟨bb,hbb⟩: ∃bb,w1.heap.size=bb:=⟨_,rfl⟩;rw [hbb] at q0 q1⊢;clear hW hb2;go_quiet (fail)
    go_wp2
    go_ret2
    exact ⟨rfl,below_drewN B2.out nq⟩
  · rw [zk hm,zl hm] at HA
    have HP:=Lib.hid hP;clear h hI hr e1 e2 hm ha hP;go_enter Tryz.func67,Tryz.ntmps67
    go_wp2_with fail
    refine HA.out.mono ?_;rintro e w1 ⟨rfl,hb1⟩;have B1:=Lib.hid hb1;clear hb1;go_wp2;generalize hW:w1.alloc (.cells #[.int .i64 0, .int .i64 0, .int .u64 0] 129)=W
    obtain ⟨q0,q1,hb2⟩:=wF hW;have B2:=Lib.hid (ah B1.out B1.out.size hb2);clear hW hb2 q0 q1;go_quiet (fail)
    go_wp2
    go_ret2
    exact ⟨rfl,below_drewN B2.out nq⟩
 · obtain ⟨f1,f2,f3⟩:=QF hr
   have hm:a<1048576:=by omega
   rw [uT hm,uU hm,f1,f2] at HA;obtain ⟨y,hy⟩: ∃y,(a-X.pl*16384)/1024=y:=⟨_,rfl⟩;obtain ⟨z,hz⟩: ∃z,a%1024=z:=⟨_,rfl⟩;have e1:bJ X a=zB X y:=by unfold bJ;rw [if_neg hr,hy]
   have e2:mq X a=if (zB X y).isSome then 0 else 5:=by unfold mq;rw [if_neg hr,hy]
   rw [e1,e2];rw [hy,hz] at HA;rw [hy] at f3;rw [hP] at HA;have t1:((P:Int) !=(P:Int))=false:=by simp
   have p0:(0:Int)≤(y:Int):=by omega
   have p1:(y:Int)<16:=by omega
   have HP:=Lib.hid hP;clear h hI hr e1 e2 f1 f2 hm hy hz ha hP;cases hin:zB X y with
   |none=>
    have HIN:=Lib.hid hin;clear hin;go_enter Tryz.func67,Tryz.ntmps67
    go_wp2_with fail
    refine HA.out.mono ?_;rintro e w1 ⟨rfl,hb1⟩;have B1:=Lib.hid hb1;have zF:=Lib.hid (SI.out.grew hb1);clear hb1;go_wp2;generalize hW:w1.alloc (.cells #[.int .i64 (P:Int), .int .i64 (y:Int), .int .u64 (z:Int)] 129)=W
    obtain ⟨q0,q1,hb2⟩:=wF hW;have B2:=Lib.hid (ah B1.out B1.out.size hb2);have c1:=(zF.out.grew hb2).c1;rw [HP.out] at c1;have con:=(zF.out.grew hb2).con f3;unfold wH at con;rw [HIN.out] at con;have UM:W.cell? ⟨sp,6+y,none⟩=some (.pointer none):=con;obtain ⟨bb,hbb⟩: ∃bb,w1.heap.size=bb:=⟨_,rfl⟩;rw [hbb] at q0 q1⊢;clear hW hb2 con;go_quiet (fail)
    go_wp2;go_quiet (fail)
    go_wp2
    go_ret2
    exact ⟨rfl,below_drewN B2.out _⟩
   |some o=>
    obtain ⟨ho,_⟩:=kD hin;have HIN:=Lib.hid hin;have HC:=Lib.hid (fun w' (b:Below w.heap.size w w')=>AZ w' ((SI.out.hd o ho).grew b) ((SG.out.own o ho).grew b));clear hin ho;go_enter Tryz.func67,Tryz.ntmps67
    go_wp2_with fail
    refine HA.out.mono ?_;rintro e w1 ⟨rfl,hb1⟩;have B1:=Lib.hid hb1;have zF:=Lib.hid (SI.out.grew hb1);clear hb1;go_wp2;generalize hW:w1.alloc (.cells #[.int .i64 (P:Int), .int .i64 (y:Int), .int .u64 (z:Int)] 129)=W
    obtain ⟨q0,q1,hb2⟩:=wF hW;have B2:=Lib.hid (ah B1.out B1.out.size hb2);have c1:=(zF.out.grew hb2).c1;rw [HP.out] at c1;have con:=(zF.out.grew hb2).con f3;unfold wH at con;rw [HIN.out] at con;have UM:W.cell? ⟨sp,6+y,none⟩=some (.pointer (some ⟨hb o.lo,0,none⟩)):=con;obtain ⟨bb,hbb⟩: ∃bb,w1.heap.size=bb:=⟨_,rfl⟩;rw [hbb] at q0 q1⊢;clear hW hb2 con;go_quiet (fail)
    go_wp2;go_quiet (fail)
    go_wp2_with fail
    refine (HC.out _ (below_drewN B2.out _)).mono ?_;rintro e w2 ⟨rfl,hb2⟩;have B3:=Lib.hid (ah (below_drewN B2.out _) B2.out.size hb2);clear hb2;go_wp2
    go_ret2
    exact ⟨rfl,B3.out⟩
end Go.Proofs.YtpibbcnkgdmcbaaGreatDoor
namespace Go.Proofs.YtpibbcnkgdmcbaaGreatDoor
open Go.RowKit aC aF aG aI au
def ahead (l:List bY) (j:Nat):List bY:=l.filter fun x=>decide (x.lo<j)
theorem ahead_zero (l:List bY):ahead l 0= []:=List.filter_eq_nil_iff.2 fun x _=>by simp
theorem zw {l:List bY} {j:Nat} (h: ∀x∈l,x.lo≠j):ahead l (j+1)=ahead l j:=List.filter_congr fun x hx=>by
 have:=h x hx;by_cases e:x.lo<j
 · rw [decide_eq_true (by omega),decide_eq_true e]
 · rw [decide_eq_false (by omega),decide_eq_false e]
theorem zu: ∀{l:List bY} {o:bY},(l.Pairwise fun a b=>a.lo+a.wd≤b.lo)→(∀x∈l,1≤x.wd)→o∈l→ahead l (o.lo+1)=ahead l o.lo++ [o]
 | [],_,_,_,h=>by cases h
 |x::t,o,hp,hw,h=>by
  obtain ⟨p1,p2⟩:=List.pairwise_cons.1 hp;unfold ahead;rcases List.mem_cons.1 h with rfl|h
  · have hx:=hw o (List.mem_cons_self ..)
    have e1:t.filter (fun y=>decide (y.lo<o.lo+1))= []:=List.filter_eq_nil_iff.2 fun y hy=>by have:=p1 y hy;simp;omega
    have e2:t.filter (fun y=>decide (y.lo<o.lo))= []:=List.filter_eq_nil_iff.2 fun y hy=>by have:=p1 y hy;simp;omega
    rw [List.filter_cons_of_pos (by simp),List.filter_cons_of_neg (by simp),e1,e2];rfl
  · have hx:=hw x (List.mem_cons_self ..)
    have hxo:=p1 o h;have ih:=zu p2 (fun y hy=>hw y (List.mem_cons_of_mem _ hy)) h;unfold ahead at ih;rw [List.filter_cons_of_pos (by simp;omega),List.filter_cons_of_pos (by simp;omega),ih];rfl
theorem Nn {l:List bY} {j:Nat} (h: ∀x∈l,x.lo<j):ahead l j=l:=filter_all fun x hx=>by simpa using h x hx
theorem YW (f:Nat→Value) {c:Nat} (hc:c<16) (w:World):(Instr.index 172 (.agg #[f 0,f 1,f 2,f 3,f 4,f 5,f 6,f 7,f 8,f 9,f 10,f 11,f 12,f 13,f 14,f 15]) (.int .i64 (c:Int))).run Tryz.prog w= .ok (f c) w:=by
 rcases c with _|_|_|_|_|_|_|_|_|_|_|_|_|_|_|_|c
 all_goals first|omega|kernel_rfl
theorem WZ:(Tryz.prog.info? 76).map (fun i=>(i.zero,i.size,i.bytes))=some (some (.pointer none),1,8):=by kernel_rfl
theorem Ph (w:World) (t:TypeId) (x:Addr) (g:Nat) (hg:g=w.heap.size):Seq Elem.ptrs (w.alloc (.cells #[.pointer (some x)] t)) (.slice (some ⟨g,0,none⟩) 1 1) [some x]:=by
 subst hg;exact Seq.new w t [some x] 1
def opP (o:bY):Option Addr:=some ⟨o.op,0,none⟩
def PgR (w:World) (l:List bY) (v i:Value) (wr:World):Prop:=
 ∃j:Nat,j≤16∧i= .int .i64 (j:Int)∧Vec Elem.ptrs wr v ((ahead l j).map opP)∧(∀b,In v b→w.heap.size≤b)∧Below w.heap.size w wr
theorem OD {w:World} {sp p g:Nat} {I:Nat→Prop} {c:Addr} {L:List Nat} {X:SG} (h:Sg nL w sp p g I c L X):
 Calls Tryz.prog 125 #[.pointer (some ⟨sp,0,none⟩)] w fun e w'=> ∃a k cap,e= .returned (.slice a k cap)∧Seq Elem.ptrs w' (.slice a k cap) (X.L.map fun o=>some ⟨o.op,0,none⟩)∧k≤cap∧cap≤9223372036854775807∧(∀b,In (.slice a k cap) b→w.heap.size≤b)∧Below w.heap.size w w':=by
 obtain ⟨k,gk,hb,hI⟩:=h.int;obtain ⟨i0,hi,hz0,hz1,hz2⟩:=info_parts WZ;have good:=h.good;have SI:=Lib.hid hI;have SG:=Lib.hid h;have HON:=Lib.hid (fun (i:Nat) (hi:i<16)=>show wH X hb i=wH X hb i from rfl);obtain ⟨f,hf⟩: ∃f,wH X hb=f:=⟨_,rfl⟩;have c0:w.cell? ⟨sp,6,none⟩=some (f 0):=hf▸hI.con (i:=0) (by decide);have c1:w.cell? ⟨sp,7,none⟩=some (f 1):=hf▸hI.con (i:=1) (by decide);have c2:w.cell? ⟨sp,8,none⟩=some (f 2):=hf▸hI.con (i:=2) (by decide);have c3:w.cell? ⟨sp,9,none⟩=some (f 3):=hf▸hI.con (i:=3) (by decide);have c4:w.cell? ⟨sp,10,none⟩=some (f 4):=hf▸hI.con (i:=4) (by decide);have c5:w.cell? ⟨sp,11,none⟩=some (f 5):=hf▸hI.con (i:=5) (by decide);have c6:w.cell? ⟨sp,12,none⟩=some (f 6):=hf▸hI.con (i:=6) (by decide);have c7:w.cell? ⟨sp,13,none⟩=some (f 7):=hf▸hI.con (i:=7) (by decide);have c8:w.cell? ⟨sp,14,none⟩=some (f 8):=hf▸hI.con (i:=8) (by decide);have c9:w.cell? ⟨sp,15,none⟩=some (f 9):=hf▸hI.con (i:=9) (by decide);have c10:w.cell? ⟨sp,16,none⟩=some (f 10):=hf▸hI.con (i:=10) (by decide);have c11:w.cell? ⟨sp,17,none⟩=some (f 11):=hf▸hI.con (i:=11) (by decide);have c12:w.cell? ⟨sp,18,none⟩=some (f 12):=hf▸hI.con (i:=12) (by decide);have c13:w.cell? ⟨sp,19,none⟩=some (f 13):=hf▸hI.con (i:=13) (by decide);have c14:w.cell? ⟨sp,20,none⟩=some (f 14):=hf▸hI.con (i:=14) (by decide);have c15:w.cell? ⟨sp,21,none⟩=some (f 15):=hf▸hI.con (i:=15) (by decide);have HF:=Lib.hid hf;have HG:=Lib.hid good;have I0:=Lib.hid (show PgR w X.L (.slice none 0 0) (.int .i64 0) w from ⟨0,by omega,rfl,by rw [ahead_zero];exact Vec.nil _,(by intro b hb;cases hb),Below.refl _ _⟩);clear hI h hf good HON;go_enter Tryz.func125,Tryz.ntmps125
 go_wp2;clear c0 c1 c2 c3 c4 c5 c6 c7 c8 c9 c10 c11 c12 c13 c14 c15;go_loopw [3,12] (fun v i wr=>PgR w X.L v i wr) (fun _ i _=>16-(intOf i).toNat)
 case atStart=>exact I0.out
 case round=>
  clear I0;obtain ⟨j,hj,rfl,hv,hin,hb1⟩:=hrel;obtain ⟨a',cap',rfl,Zd,abm⟩:=hv.slice';obtain ⟨n,hn⟩: ∃n,((ahead X.L j).map opP).length=n:=⟨_,rfl⟩;rw [hn] at hv hin Zd⊢;have V:=Lib.hid hv;have N:=Lib.hid hin;have B:=Lib.hid hb1;have HN:=Lib.hid hn;have zF:=Lib.hid (SI.out.grew hb1);have OW:=Lib.hid (fun (o:bY) (ho:o∈X.L)=>(SG.out.own o ho).grew hb1);clear hv hin hb1 hn;by_cases hjk:j<16
  · have t1:decide ((j:Int)<16)=true:=decide_eq_true (by omega)
    have ON:=YW f hjk;have ej:(((j+1:Nat)):Int)=(j:Int)+1:=by omega
    have hfj:f j= .pointer ((zB X j).map fun o=>⟨hb o.lo,0,none⟩):=by rw [←HF.out];rfl
    rw [hfj] at ON;cases hin:zB X j with
    |none=>
     rw [hin] at ON;have ON': ∀w,(Instr.index 172 (.agg #[f 0,f 1,f 2,f 3,f 4,f 5,f 6,f 7,f 8,f 9,f 10,f 11,f 12,f 13,f 14,f 15]) (.int .i64 (j:Int))).run Tryz.prog w= .ok (.pointer none) w:=ON;have hno:=zw (l:=X.L) (j:=j) fun x hx e=>by
      have h1:=HG.out.oN hx (i:=j) (by omega) (by have:=HG.out.fit x hx;omega);rw [hin] at h1;cases h1
     have HNO:=Lib.hid hno;clear hno hin hfj ON;go_wp2;go_roundw
     case rel=>exact ⟨j+1,by omega,by rw [ej],by rw [HNO.out];exact V.out,N.out,B.out⟩
     case measure=>simp [intOf];omega
    |some o=>
     rw [hin] at ON;obtain ⟨ho,hlo1,hlo2⟩:=kD hin;obtain ⟨q,hq⟩: ∃q,hb o.lo=q:=⟨_,rfl⟩;have hd:=(zF.out.hd o ho);rw [hq] at hd;have ON': ∀w,(Instr.index 172 (.agg #[f 0,f 1,f 2,f 3,f 4,f 5,f 6,f 7,f 8,f 9,f 10,f 11,f 12,f 13,f 14,f 15]) (.int .i64 (j:Int))).run Tryz.prog w= .ok (.pointer (some ⟨q,0,none⟩)) w:=by rw [←hq];exact ON
     have HO:=Lib.hid ho;have HD:=Lib.hid hd;by_cases e:o.lo=j
     · have d2:wr.cell? ⟨q,2,none⟩=some (.int .i64 (j:Int)):=by rw [←e];exact hd.cell 2
       have t2:((j:Int)==(j:Int))=true:=by simp
       have hap:=zu (l:=X.L) HG.out.rise (fun x hx=>(HG.out.fit x hx).2.1) ho;rw [e] at hap;have HAP:=Lib.hid hap;have HC:=Lib.hid (AZ wr hd (OW.out o ho));clear hap hd hin hfj ON ho hlo1 hlo2 e hq;go_wp2_with fail
       refine HC.out.mono ?_;rintro e w1 ⟨rfl,hb2⟩;have B2:=Lib.hid (ah B.out B.out.size hb2);have V2:=Lib.hid (V.out.upd (ak hb2) fun _ _=>id);clear hb2 d2;have hn16:n≤16:=by
        rw [←HN.out,List.length_map];have h1:=List.length_filter_le (fun x:bY=>decide (x.lo<j)) X.L;have h2:=HG.out.count;unfold ahead;omega
       have s2:=B2.out.size;go_wp2_with (at_builtin;refine bV (E:=Elem.ptrs) rfl (.tmp 27) (.tmp 30) 187 rfl 76 i0 (.pointer none) 8 Tryz.underlying187 hi hz0 hz1 hz2 rfl (.slice a' n cap') (.slice (some ⟨w1.heap.size,0,none⟩) 1 1) ((ahead X.L j).map opP) [some ⟨o.op,0,none⟩] rfl rfl (V2.out.alloc _) (Ph _ _ ⟨o.op,0,none⟩ _ rfl) ?_ ?_ ?_;(rw [HN.out];simp only [maxLen,List.length_cons,List.length_nil];omega);(rw [HN.out];simp only [List.length_cons,List.length_nil];omega);intro v2 w9 hv2 hu2 hin2;have BZ:=Lib.hid (KD (B2.out.alloc s2 _) (Nat.le_trans s2 (by simp)) N.out hu2);have N2:=Lib.hid hin2;have V3:=Lib.hid hv2;clear hv2 hu2 hin2)
       go_roundw
       case rel=>
        refine ⟨j+1,by omega,by rw [ej], ?_,fun b hb=> ?_,BZ.out⟩
        · rw [HAP.out,List.map_append];exact V3.out
        · rcases N2.out b hb with z|z
          · exact N.out b z
          · simp at z;omega
       case measure=>simp [intOf];omega
     · have d2:wr.cell? ⟨q,2,none⟩=some (.int .i64 (o.lo:Int)):=hd.cell 2
       have t2:((o.lo:Int)==(j:Int))=false:=by rw [beq_eq_false_iff_ne];omega
       have hno:=zw (l:=X.L) (j:=j) fun x hx ex=>by
        have h1:=HG.out.oN hx (i:=j) (by omega) (by have:=HG.out.fit x hx;omega);rw [hin] at h1;injection h1 with h1
        rw [h1] at e;exact e ex
       have HNO:=Lib.hid hno;obtain ⟨z,hz⟩: ∃z,o.lo=z:=⟨_,rfl⟩;rw [hz] at d2 t2;clear hno hd hin hfj ON ho hlo1 hlo2 e hq hz;go_wp2;go_roundw
       case rel=>exact ⟨j+1,by omega,by rw [ej],by rw [HNO.out];exact V.out,N.out,B.out⟩
       case measure=>simp [intOf];omega
  · obtain rfl:j=16:=by omega
    have hall:=Nn (l:=X.L) (j:=16) fun x hx=>by have:=HG.out.fit x hx;omega
    have Jk:=Lib.hid hall;clear hall;go_wp2;go_ret;refine ⟨a',n,cap',rfl, ?_,Zd,abm,N.out,B.out⟩;have:=V.out.seq;rw [Jk.out] at this;exact this
end Go.Proofs.YtpibbcnkgdmcbaaGreatDoor
namespace Go.Proofs.YtpibbcnkgdmcbaaGreatDoor
open Go.RowKit aC aF aG aI au
section
variable {P:Program}
theorem Bw {w:World} (t ty e:TypeId) (ht:P.underlying t=some (.slice e)) (hv: ∀w,(zeroValue e).run P w= .ok (.pointer none) w)
 {ts:TypeId} {sp p k pl ow ot oa:Nat} {f:Nat→Value} (hB:aV w sp ts (CZ p k pl ow ot oa f)) (a n c:Nat) (hn:1≤n) (hl:a+n≤16):
 ∃w',(Builtin.clear_ #[t] ty #[.slice (some ⟨sp,6+a,none⟩) n c]).run P w= .ok (.tuple #[]) w'∧aV w' sp ts (CZ p k pl ow ot oa fun j=>if a≤j∧j<a+n then .pointer none else f j)∧aH (fun b=>b=sp) w w':=by
 have hrun:=Lib.run_clear_slice (P:=P) w t e ty (.pointer none) ht hv rfl rfl sp (6+a) n c (by omega) (fun j hj=>by rw [Nat.add_assoc,hB.cell,Bv _ _ _ _ _ _ _ (by omega)];rfl) (fun j hj=>hB.frozen _);exact ⟨_,hrun,Ac _ n a f w hB hl,iR sp _ (6+a) w⟩
theorem zJ {w:World} {ops:Array Oper} {o:Oper} {ac:Act} {K:Act→World→Prop} {Q:Exit→Act→World→Prop} {E:Prop} (hgd:o.guard=none) (d:Operand) (t:TypeId)
 (ho:o.op= .call {callee:= .builtin .clear,args:= #[d],argTypes:= #[t]}) (e:TypeId) (ht:P.underlying t=some (.slice e)) (hv: ∀w,(zeroValue e).run P w= .ok (.pointer none) w)
 {ts:TypeId} {sp p k pl ow ot oa:Nat} {f:Nat→Value} (hB:aV w sp ts (CZ p k pl ow ot oa f)) (a n c:Nat) (hn:1≤n) (hl:a+n≤16) (hd:ac.eval d= .slice (some ⟨sp,6+a,none⟩) n c)
 (h: ∀w',aV w' sp ts (CZ p k pl ow ot oa fun j=>if a≤j∧j<a+n then .pointer none else f j)→aH (fun b=>b=sp) w w'→K (ac.put o.dst (.tuple #[])) w'):
 if Region.wanted o (yielded ops ac.tmps)=true then Oper.wp P o ac w K Q else E:=by
 have hw:Region.wanted o (yielded ops ac.tmps)=true:=by simp [Region.wanted,hgd]
 rw [if_pos hw];obtain ⟨w',hr,h1,h2⟩:=Bw (P:=P) t o.type e ht hv hB a n c hn hl;unfold Oper.wp execOp;simp only [ho,resolve,invoke,builtin,Sem.run_bind,Sem.run_pure,Result.andThen_ok,List.map_toArray,List.map_cons,List.map_nil,hd,hr];exact h w' h1 h2
end
theorem Fe {w w':World} {a:Addr} {v:Value} (h:w.cell? a=some v) (hb:Below w.heap.size w w'):w'.cell? a=some v:=(hb.cell (p:=a) (World.block_lt_of_cell? w _ h)).trans h
theorem Oz (sp a n:Nat) (hn:1≤n) (hl:a+n≤16) (w:World):(Instr.sliceAt 172 (.pointer (some ⟨sp,6,none⟩)) (some (.int .i64 (a:Int))) (some (.int .i64 ((a:Int)+(n:Int)))) none).run Tryz.prog w= .ok (.slice (some ⟨sp,6+a,none⟩) n (16-a)) w:=by
 have Zt:Tryz.prog.arrayLen 172=16:=by kernel_rfl
 have hz: ∀w,(sizeOf (Tryz.prog.elem 172)).run Tryz.prog w= .ok 1 w:=fun w=>by kernel_rfl
 have hu:Tryz.prog.underlying 172=some (.array (Tryz.prog.arrayLen 172) (Tryz.prog.elem 172)):=by kernel_rfl
 rw [run_sliceAt_array_lh (P:=Tryz.prog) (w:=w) (t:=172) (a:=⟨sp,6,none⟩) hu .i64 .i64 (a:Int) ((a:Int)+(n:Int)) (by omega) (by omega) (by rw [Zt];omega),hz,Zt];have e1:((a:Int)+(n:Int)).toNat=a+n:=by omega
 simp only [Result.andThen_ok,slicedAt,e1,Int.toNat_natCast,Nat.mul_one];rw [if_neg (by omega),show a+n-a=n by omega];simp [Addr.add]
theorem V_ (w:World):(zeroValue 171).run Tryz.prog w= .ok (.pointer none) w:=by kernel_rfl
theorem mH.cleared {w w1 w2:World} {sp p:Nat} {I:Nat→Prop} {c:Addr} {X:SG} {k gk:Nat} {hb:Nat→Nat} (h:mH w sp p I c X k gk hb) (g:bX X) {o:bY} (ho:o∈X.L)
 (hB:aV w1 sp 174 (CZ p k X.pl X.ow X.ot X.oa fun j=>if o.lo≤j∧j<o.lo+o.wd then .pointer none else wH X hb j)) (u1:aH (fun b=>b=sp) w w1)
 (hM:Mk.aU w2 k 0 gk (aj.setAt X.K o.lo o.wd false)) (u2:aH (fun b=>b=gk) w1 w2):
 ∃I',mH w2 sp p I' c (X.cut o) k gk hb∧(∀b,I' b→I b)∧aH I w w2:=by
 have hsub: ∀x∈(X.cut o).L,x∈X.L∧x.lo≠o.lo:=fun x hx=>by
  have:=List.mem_filter.1 hx;exact ⟨this.1,by simpa using this.2⟩
 refine ⟨fun b=>b=sp∨b=k∨b=gk∨ ∃x∈(X.cut o).L,b=hb x.lo,⟨?_,hM,fun x hx=> ?_,fun b=>Iff.rfl,h.c,h.ow,h.nk,h.ng,fun x hx=>h.nh x (hsub x hx).1⟩,fun b hb=> ?_, ?_⟩
 · have hb2:=hB.upd u2 h.ng
   rw [lK (g:=wH (X.cut o) hb) _ _ _ _ _ _ fun i hi=> ?_] at hb2
   · exact hb2
   · unfold wH
     by_cases e:o.lo≤i∧i<o.lo+o.wd
     · rw [if_pos e]
       have:zB (X.cut o) i=none:=List.find?_eq_none.2 fun x hx=>by
        obtain ⟨h1,h2⟩:=hsub x hx;rcases g.two h1 ho with e2|e2|e2
        · exact absurd (by rw [e2]) h2
        · simp;omega
        · simp;omega
       rw [this];rfl
     · rw [if_neg e]
       cases hin:zB X i with
       |none=>
        have:zB (X.cut o) i=none:=List.find?_eq_none.2 fun x hx=>List.find?_eq_none.1 hin x (hsub x hx).1;rw [this]
       |some y=>
        obtain ⟨y1,y2,y3⟩:=kD hin;have hy:y∈(X.cut o).L:=List.mem_filter.2 ⟨y1,by
         simp only [ne_eq,decide_eq_true_eq];intro x;have:=g.one y1 ho x;subst this;exact e ⟨y2,y3⟩⟩
        rw [(g.cut ho).oN hy y2 y3]
 · obtain ⟨h1,_⟩:=hsub x hx
   have n1:=h.nh x h1;exact ((h.hd x h1).upd u1 n1.1).upd u2 n1.2.2
 · rw [h.nI]
   rcases hb with x|x|x|⟨y,hy,x⟩
   · exact .inl x
   · exact .inr (.inl x)
   · exact .inr (.inr (.inl x))
   · exact .inr (.inr (.inr ⟨y,(hsub y hy).1,x⟩))
 · exact (u1.mono fun b e=>e▸h.Uk).trans (u2.mono fun b e=>e▸h.ig)
theorem Tj {w:World} {sp p g:Nat} {I:Nat→Prop} {c:Addr} {L:List Nat} {X:SG} {k gk:Nat} {hb:Nat→Nat} (h:Sg nL w sp p g I c L X) (hI:mH w sp p I c X k gk hb) {n:Int} (hn:dH n):
 Calls Tryz.prog 159 #[.pointer (some ⟨sp,0,none⟩), .int .i64 n] w fun e w'=> ∃I',e= .returned (.int .i64 (iL X n).2)∧mH w' sp p I' c (iL X n).1 k gk hb∧(∀b,I' b→I b)∧aH I w w':=by
 have good:=h.good;have SI:=Lib.hid hI;have SG:=Lib.hid h;have HG:=Lib.hid good;obtain ⟨n1,n2⟩:=hn;have hno:Nu X n=none→iL X n=(X,5):=fun e=>by unfold iL;rw [e]
 by_cases hr:n<0∨16≤n
 · have e1:=hno (List.find?_eq_none.2 fun x hx=>by have:=good.fit x hx;simp;omega)
   rw [e1];have hc:(decide (n<0)=true)∨(decide (n<0)=false∧decide ((16:Int)≤n)=true):=by
    by_cases h0:n<0
    · exact .inl (decide_eq_true h0)
    · exact .inr ⟨decide_eq_false h0,decide_eq_true (by omega)⟩
   clear h hI good hno e1 hr;rcases hc with t1|⟨t1,t2⟩
   all_goals
    go_enter Tryz.func159,Tryz.ntmps159
    go_wp2;go_ret;exact ⟨I,rfl,SI.out,fun _=>id,aH.refl _ _⟩
 · obtain ⟨a,rfl⟩:=Int.eq_ofNat_of_zero_le (show 0≤n by omega)
   have ha:a<16:=by omega
   have t1:decide ((a:Int)<0)=false:=decide_eq_false (by omega);have t2:decide ((16:Int)≤(a:Int))=false:=decide_eq_false (by omega);have p0:(0:Int)≤(a:Int):=by omega
   have p1:(a:Int)<16:=by omega
   have con:=hI.con ha;cases hin:zB X a with
   |none=>
    have e1:=hno (by
     cases he:Nu X (a:Int) with
     |none=>rfl
     |some x=>
      obtain ⟨x1,x2⟩:=sZ he;have:=good.oN x1 (i:=a) (by omega) (by have:=good.fit x x1;omega);rw [hin] at this;cases this)
    rw [e1];unfold wH at con;rw [hin] at con;have UM:w.cell? ⟨sp,6+a,none⟩=some (.pointer none):=con;clear h hI good hno e1 hr hin con;go_enter Tryz.func159,Tryz.ntmps159
    go_wp2;go_ret;exact ⟨I,rfl,SI.out,fun _=>id,aH.refl _ _⟩
   |some o=>
    obtain ⟨ho,hlo1,hlo2⟩:=kD hin;unfold wH at con;rw [hin] at con;obtain ⟨q,hq⟩: ∃q,hb o.lo=q:=⟨_,rfl⟩;have UM:w.cell? ⟨sp,6+a,none⟩=some (.pointer (some ⟨q,0,none⟩)):=by rw [←hq];exact con
    have hd:=hI.hd o ho;rw [hq] at hd;have HO:=Lib.hid ho;by_cases e:o.lo=a
    · have hat:Nu X (a:Int)=some o:=by rw [←e];exact good.Rf ho
      have d0:w.cell? ⟨q,0,none⟩=some (.pointer (some ⟨o.pp,0,none⟩)):=hd.cell 0;have d2:w.cell? ⟨q,2,none⟩=some (.int .i64 (a:Int)):=by rw [←e];exact hd.cell 2
      have d3:w.cell? ⟨q,3,none⟩=some (.int .i64 (o.wd:Int)):=hd.cell 3;have t3:((a:Int) !=(a:Int))=false:=by simp
      have HU:=Lib.hid (BL (h.pg o ho).1);by_cases hu:0<o.P.used
      · have e1:iL X (a:Int)=(X,6):=by unfold iL;rw [hat];simp only [];rw [if_pos hu]
        rw [e1];have t4:decide ((0:Int)<(o.P.used:Int))=true:=decide_eq_true (by omega);have t4':decide (0<o.P.used)=true:=decide_eq_true hu;obtain ⟨us,wQ⟩: ∃us,o.P.used=us:=⟨_,rfl⟩;rw [wQ] at t4 t4' HU;clear h hI good hno e1 hr hin con hat hu e hq hd ho hlo1 hlo2 wQ;go_enter Tryz.func159,Tryz.ntmps159
        go_wp2_with fail
        refine HU.out.mono ?_;rintro e w1 ⟨rfl,hb1⟩;have zF:=Lib.hid (SI.out.grew hb1);have U1:=Lib.hid ((ak hb1).mono (T:=I) fun _ x=>x.elim);clear hb1;go_wp2;go_ret;exact ⟨I,rfl,zF.out,fun _=>id,U1.out⟩
      · have e1:iL X (a:Int)=(X.cut o,0):=by unfold iL;rw [hat];simp only [];rw [if_neg hu]
        rw [e1];have hu0:o.P.used=0:=by omega
        rw [hu0] at HU;have hfit:=good.fit o ho;obtain ⟨wd,hwd⟩: ∃wd,o.wd=wd:=⟨_,rfl⟩;rw [hwd] at d3 hfit;rw [e] at hfit;have c5:=hI.c5;have HX:=Lib.hid (And.intro e (And.intro hwd hq));have haw:IntKind.i64.wrap ((a:Int)+(wd:Int))=(a:Int)+(wd:Int):=IntWalk.i64_in _ ⟨by omega,by omega⟩;have Vp:=Lib.hid hfit;clear h hI good hno e1 hr hin con hat hu e hq hd ho hlo1 hlo2 hu0 hwd;go_enter Tryz.func159,Tryz.ntmps159
        go_wp2_with fail
        refine HU.out.mono ?_;rintro e w1 ⟨rfl,hb1⟩;have zF:=Lib.hid (SI.out.grew hb1);have U1:=Lib.hid ((ak hb1).mono (T:=I) fun _ x=>x.elim);have d3:w1.cell? ⟨q,3,none⟩=some (.int .i64 (wd:Int)):=Fe d3 hb1;clear hb1 UM d0 d2 c5;have SL:=Oz sp a wd hfit.2.1 hfit.2.2;go_wp2;go_region_law (refine zJ rfl (.tmp 49) 239 rfl 171 Tryz.underlying239 V_ zF.out.B.drew a wd (16-a) Vp.out.2.1 Vp.out.2.2 ?_ ?_;go_simp;intro w2 hr2 hu2)
        obtain ⟨x1,x2,x3⟩:=HX.out;have hq2:=zF.out.hd o HO.out;rw [x3] at hq2;have hqs:q≠sp:=by rw [←x3];exact (zF.out.nh o HO.out).1
        have hqg:q≠gk:=by rw [←x3];exact (zF.out.nh o HO.out).2.2
        have hq3:=hq2.drew.upd hu2 hqs;have e5:w2.cell? ⟨sp,5,none⟩=some (.pointer (some ⟨k,0,none⟩)):=hr2.cell 5;have e3:w2.cell? ⟨q,3,none⟩=some (.int .i64 (wd:Int)):=by rw [←x2];exact hq3.cell 3
        have M2:=Lib.hid ((zF.out.M.upd (aH.refl (fun _=>False) w1).drew id id).upd hu2 (fun e=>zF.out.nk e.symm) (fun e=>zF.out.ng e.symm));have hall:aj.bI X.K a wd true:=by rw [←x1,←x2];exact HG.out.taken HO.out
        have hfr:=fun (w':World) (hM:Mk.aU w' k 0 gk X.K)=>Mk.ER hM (a:Int) (wd:Int) (gy.wf ⟨by omega,by omega⟩) (gy.wf ⟨by omega,by omega⟩);rw [Mk.pF Vp.out.2.1 (b:=false) hall,Mk.pG (code:=5) Vp.out.2.1 (b:=false) hall] at hfr;have FR:=Lib.hid hfr;have R2:=Lib.hid hr2;have U2:=Lib.hid hu2;have Q3:=Lib.hid hq3;have NS:=Lib.hid (And.intro hqs hqg);clear x1 x2 x3 hq2 hq3 hqs hqg hall hfr hr2 hu2 SL d3 haw;go_wp2_with fail
        go_region_held3 (fun w'=>w'.cell? ⟨sp,5,none⟩=some (.pointer (some ⟨k,0,none⟩))∧w'.cell? ⟨q,3,none⟩=some (.int .i64 (wd:Int))) (first|go_keep|exact ⟨e5,e3⟩)
         (first
          |(go_at_call 155;(first|(with_reducible refine (FR.out _ (M2.out.upd (aH.refl (fun _=>False) _).drew id id)).mono ?_)|(with_reducible refine (FR.out _ M2.out).mono ?_));rintro e w3 ⟨rfl,Zq,hu3⟩;have e5:w3.cell? ⟨sp,5,none⟩=some (.pointer (some ⟨k,0,none⟩)):=(by first|exact (R2.out.drew.upd hu3 zF.out.ng).cell 5|exact (R2.out.upd hu3 zF.out.ng).cell 5);have e3:w3.cell? ⟨q,3,none⟩=some (.int .i64 (wd:Int)):=(by rw [←HX.out.2.1];first|exact (Q3.out.drew.upd hu3 NS.out.2).cell 3|exact (Q3.out.upd hu3 NS.out.2).cell 3);have M3:=Lib.hid Zq;have U3:Hid (aH (fun b=>b=gk) w2 w3):=Lib.hid (by first|exact (aH.refl (fun b=>b=gk) w2).drew.trans hu3|exact hu3);clear Zq hu3))
        clear e5 e3;go_wp2;go_ret;obtain ⟨x1,x2,x3⟩:=HX.out;have r2:=R2.out;have m3:=M3.out;rw [←x1,←x2] at r2 m3;obtain ⟨I',j1,j2,j3⟩:=zF.out.cleared HG.out HO.out r2 ((aH.refl _ w1).drew.trans U2.out) m3 U3.out;exact ⟨I',rfl,j1,j2,U1.out.trans j3⟩
    · have e1:=hno (by
       cases he:Nu X (a:Int) with
       |none=>rfl
       |some x=>
        obtain ⟨x1,x2⟩:=sZ he;have:=good.oN x1 (i:=a) (by omega) (by have:=good.fit x x1;omega);rw [hin] at this;injection this with this
        rw [this] at e;omega)
      rw [e1];have d2:w.cell? ⟨q,2,none⟩=some (.int .i64 (o.lo:Int)):=hd.cell 2;obtain ⟨z,hz⟩: ∃z,o.lo=z:=⟨_,rfl⟩;rw [hz] at d2 e;have t3:((z:Int) !=(a:Int))=true:=by rw [bne_iff_ne];omega
      clear h hI good hno e1 hr hin con hd ho hlo1 hlo2 e hz hq;go_enter Tryz.func159,Tryz.ntmps159
      go_wp2;go_ret;exact ⟨I,rfl,SI.out,fun _=>id,aH.refl _ _⟩
end Go.Proofs.YtpibbcnkgdmcbaaGreatDoor
namespace Go.Proofs.YtpibbcnkgdmcbaaGreatDoor
open Go.RowKit aC aF aG aI au
theorem map_inj {φ:bY→Nat} {l:List bY} (h:(l.map φ).Nodup) {a b:bY} (ha:a∈l) (hb:b∈l) (e:φ a=φ b):a=b:=by
 induction l with
 |nil=>cases ha
 |cons x t ih=>
  rw [List.map_cons,List.nodup_cons] at h;rcases List.mem_cons.1 ha with rfl|ha2
  · rcases List.mem_cons.1 hb with rfl|hb2
    · rfl
    · exact absurd (List.mem_map.2 ⟨b,hb2,e.symm⟩) h.1
  · rcases List.mem_cons.1 hb with rfl|hb2
    · exact absurd (List.mem_map.2 ⟨a,ha2,e⟩) h.1
    · exact ih h.2 ha2 hb2
theorem yD {φ:bY→Nat} {l:List bY} {o:bY} (h:(l.map φ).Nodup) (hne: ∀x∈l,φ x≠φ o):((ni l o).map φ).Nodup:=by
 unfold ni;rw [List.map_append,List.map_cons,List.nodup_append,List.nodup_cons];have sub: ∀q:bY→Bool,((l.filter q).map φ).Nodup:=fun q=>h.sublist (List.filter_sublist.map φ);refine ⟨sub _,⟨fun hm=> ?_,sub _⟩,fun a ha b hb=> ?_⟩
 · obtain ⟨x,hx,e⟩:=List.mem_map.1 hm
   exact hne x (List.mem_filter.1 hx).1 e
 · obtain ⟨x,hx,rfl⟩:=List.mem_map.1 ha
   obtain ⟨x1,x2⟩:=List.mem_filter.1 hx;rcases List.mem_cons.1 hb with rfl|hb
   · exact hne x x1
   · obtain ⟨y,hy,rfl⟩:=List.mem_map.1 hb
     obtain ⟨y1,y2⟩:=List.mem_filter.1 hy;intro e;have:=map_inj h x1 y1 e;subst this;simp at x2 y2;omega
theorem Tf {w w9:World} {sp p g:Nat} {I:Nat→Prop} {c:Addr} {L:List Nat} {X:SG} {k gk:Nat} {hb:Nat→Nat} (h:Sg nL w sp p g I c L X) (hI:mH w sp p I c X k gk hb)
 {a n s bl op pp q:Nat} {cls:Int} (hf:aj.bI X.K a n false) (hn:1≤n) (hc:nH ⟨op,pp,cls,a,n,bR (aL X.pl a) s bl⟩)
 (hB:aV w9 sp 174 (CZ p k X.pl X.ow X.ot X.oa fun j=>if a≤j∧j<a+n then .pointer (some ⟨q,0,none⟩) else wH X hb j))
 (hM:Mk.aU w9 k 0 gk (aj.setAt X.K a n true))
 (hq:aV w9 q 207 (hdA ⟨op,pp,cls,a,n,bR (aL X.pl a) s bl⟩)) (ho:aV w9 op 100 (Px ⟨op,pp,cls,a,n,bR (aL X.pl a) s bl⟩))
 (hp:dU w9 pp p g L (bR (aL X.pl a) s bl)) (gp:aJ L (bR (aL X.pl a) s bl)) (u:aH (fun b=>b=sp∨b=gk) w w9)
 (f1:w.heap.size≤q) (f2:w.heap.size≤op) (f3:w.heap.size≤pp):
 ∃I',Sg nL w9 sp p g I' c L (X.add op pp cls a n bl s)∧(∀b,I' b→I b∨w.heap.size≤b)∧aH I w w9:=by
 have g1:=h.good;have gx:=g1.add hn hf hc;obtain ⟨a1,a2,a3⟩:=g1.free hn hf;have hlo: ∀x∈X.L,x.lo≠a:=fun x hx=>by have:=a3 x hx;have:=(g1.fit x hx).2.1;omega
 have hmem: ∀x,x∈(X.add op pp cls a n bl s).L↔(x=⟨op,pp,cls,a,n,bR (aL X.pl a) s bl⟩∨x∈X.L):=fun x=>by
  show x∈ni X.L _↔_;rw [fZ];exact ⟨fun e=>by rcases e with e|e;exact .inl e;exact .inr e.1,fun e=>by rcases e with e|e;exact .inl e;exact .inr ⟨e,hlo x e⟩⟩
 have hin: ∀b,I b→b<w.heap.size:=fun b=>hI.lt;have hops: ∀x∈X.L,x.op<w.heap.size∧x.pp<w.heap.size:=fun x hx=>⟨(h.own x hx).lt,(h.pg x hx).1.lt⟩;have hpl:=h.mem.head.lt;have hgl:=h.mem.row.lt;have hsp:=hI.B.lt;have hgk:=hI.M.row.lt;have hkl:=hI.M.lt;have n1:q≠op:=hq.ne ho (by decide);have n2:q≠pp:=hq.ne hp.B (by decide);have n3:op≠pp:=ho.ne hp.B (by decide);have hT: ∀b,(b=sp∨b=gk)→I b:=fun b e=>by rcases e with rfl|rfl;exact hI.Uk;exact hI.ig
 have uI:=u.mono hT;have hb': ∃hb':Nat→Nat,hb' a=q∧ ∀x,x≠a→hb' x=hb x:=⟨fun x=>if x=a then q else hb x,if_pos rfl,fun x hx=>if_neg hx⟩;obtain ⟨hb',b1,b2⟩:=hb';have hhb: ∀x∈X.L,hb' x.lo=hb x.lo:=fun x hx=>b2 _ (hlo x hx);have hii: ∀b,(b=sp∨b=k∨b=gk∨ ∃x∈(X.add op pp cls a n bl s).L,b=hb' x.lo)→I b∨b=q:=fun b hb=>by
  rcases hb with rfl|rfl|rfl|⟨x,hx,rfl⟩
  · exact .inl hI.Uk
  · exact .inl hI.ik
  · exact .inl hI.ig
  · rcases (hmem x).1 hx with rfl|hx
    · exact .inr b1
    · rw [hhb x hx];exact .inl (hI.ih hx)
 refine ⟨fun b=>b=sp∨b=k∨b=gk∨ ∃x∈(X.add op pp cls a n bl s).L,b=hb' x.lo,⟨⟨k,gk,hb', ?_,hM,fun x hx=> ?_,fun b=>Iff.rfl,hI.c,hI.ow,hI.nk,hI.ng,fun x hx=> ?_⟩, ?_,h.len,h.pl,gx,fun x hx=> ?_,fun x hx=> ?_, ?_, ?_, ?_, ?_,fun x hx=> ?_⟩,fun b hb=> ?_,uI⟩
 ·
  rw [lK (g:=wH (X.add op pp cls a n bl s) hb') _ _ _ _ _ _ fun i hi=> ?_] at hB
  · exact hB
  · unfold wH
    by_cases e:a≤i∧i<a+n
    · rw [if_pos e,gx.oN ((hmem _).2 (.inl rfl)) e.1 e.2]
      show _=Value.pointer (some ⟨hb' a,0,none⟩);rw [b1]
    · rw [if_neg e]
      cases hi2:zB X i with
      |none=>
       have:zB (X.add op pp cls a n bl s) i=none:=List.find?_eq_none.2 fun x hx=>by
        rcases (hmem x).1 hx with rfl|hx
        · simp;omega
        · exact List.find?_eq_none.1 hi2 x hx
       rw [this];rfl
      |some y=>
       obtain ⟨y1,y2,y3⟩:=kD hi2;rw [gx.oN ((hmem y).2 (.inr y1)) y2 y3];show Value.pointer (some ⟨hb y.lo,0,none⟩)=Value.pointer (some ⟨hb' y.lo,0,none⟩);rw [hhb y y1]
 · rcases (hmem x).1 hx with rfl|hx
   · show aV w9 (hb' a) _ _
     rw [b1];exact hq
   · rw [hhb x hx]
     have:=hI.nh x hx;exact (hI.hd x hx).upd u fun e=>by rcases e with e|e;exact this.1 e;exact this.2.2 e
 · rcases (hmem x).1 hx with rfl|hx
   · show hb' a≠sp∧hb' a≠k∧hb' a≠gk
     rw [b1];exact ⟨by omega,by omega,by omega⟩
   · rw [hhb x hx];exact hI.nh x hx
 · exact h.mem.upd uI h.sep.1 h.sep.2.1
 · rcases (hmem x).1 hx with rfl|hx
   · exact ho
   · exact (h.own x hx).upd uI (h.sep.2.2 x hx).1
 · rcases (hmem x).1 hx with rfl|hx
   · exact ⟨hp,gp,rfl,Nat.zero_le _⟩
   · refine ⟨(h.pg x hx).1.upd uI fun b hb e=> ?_,(h.pg x hx).2⟩
     rcases e with rfl|rfl|rfl
     · exact (h.sep.2.2 x hx).2.1 hb
     · exact h.sep.1 hb
     · exact h.sep.2.1 hb
 · exact yD h.ops fun x hx=>by have:=(hops x hx).1;show x.op≠op;omega
 · exact yD h.pps fun x hx=>by have:=(hops x hx).2;show x.pp≠pp;omega
 · intro x
   rcases hii _ x with x|x
   · exact h.sep.1 x
   · omega
 · intro x
   rcases hii _ x with x|x
   · exact h.sep.2.1 x
   · omega
 · have hz: ∀z∈(X.add op pp cls a n bl s).L,z.pp=pp∨(z∈X.L∧z.pp<w.heap.size):=fun z hz=>by
    rcases (hmem z).1 hz with rfl|hz
    · exact .inl rfl
    · exact .inr ⟨hz,(hops z hz).2⟩
   rcases (hmem x).1 hx with rfl|hx
   · refine ⟨fun e=> ?_,fun e=> ?_,show op≠p by omega,show op≠g by omega,fun z hzz=> ?_⟩
     · rcases hii _ e with e|e
       · have h1:op<w.heap.size:=hin _ e;omega
       · exact n1 e.symm
     · rcases hii _ e with e|e
       · have h1:pp<w.heap.size:=hin _ e;omega
       · exact n2 e.symm
     · show op≠z.pp
       rcases hz z hzz with e|⟨_,e⟩
       · rw [e];exact n3
       · omega
   · obtain ⟨s1,s2,s3,s4,s5⟩:=h.sep.2.2 x hx
     obtain ⟨l1,l2⟩:=hops x hx;refine ⟨fun e=> ?_,fun e=> ?_,s3,s4,fun z hzz=> ?_⟩
     · rcases hii _ e with e|e
       · exact s1 e
       · omega
     · rcases hii _ e with e|e
       · exact s2 e
       · omega
     · rcases hz z hzz with e|⟨e,_⟩
       · rw [e];omega
       · exact s5 z e
 · rcases hii _ hb with e|e
   · exact .inl e
   · exact .inr (e▸f1)
end Go.Proofs.YtpibbcnkgdmcbaaGreatDoor
namespace Go.Proofs.YtpibbcnkgdmcbaaGreatDoor
open Go.RowKit aC aF aG aI au
theorem G5 {w w':World} {k gk:Nat} {K:List Bool} (h:Mk.aU w k 0 gk K) (h':Mk.aU w' k 0 gk K) (u:aH (fun b=>b=gk) w w'):Below w.heap.size w w':=u.same h.row h'.row
theorem uY {w:World} {sp p g:Nat} {I:Nat→Prop} {c:Addr} {L:List Nat} {X:SG} {n:Nat} (h:Sg nL w sp p g I c L X) (h1:1≤n) (h2:n≤16) (hl:aj.low X.K n=none) (cls:Int) (s:Nat) (bl:Int):
 Calls Tryz.prog 176 #[.pointer (some ⟨sp,0,none⟩), .int .i64 cls, .int .i64 (n:Int), .int .u64 (s:Int), .int .i64 bl] w fun e w'=>e= .returned (.tuple #[.pointer none, .int .i64 4])∧Below w.heap.size w w':=by
 obtain ⟨k,gk,hb,hI⟩:=h.int;have ht:=Mk.rE hI.M (n:Int);obtain ⟨e1,e2,e3⟩:=Mk.tZ h1 (by rw [h.good.len];exact h2) hl;rw [e1,e2,e3] at ht;have HT:=Lib.hid ht;have SI:=Lib.hid hI;have c5:=hI.c5;clear h hI ht e1 e2 e3 hl;go_enter Tryz.func176,Tryz.ntmps176
 go_wp2_with fail
 refine HT.out.mono ?_;rintro e w1 ⟨rfl,hm,hu⟩;have B1:=Lib.hid (G5 SI.out.M hm hu);clear hm hu c5;go_wp2
 go_ret2
 exact ⟨rfl,B1.out⟩
theorem Sq {w W:World} {t1 t2:TypeId} {A:Array Value} {f:Nat→Array Value} (h:(w.alloc (.cells A t1)).alloc (.cells (f w.heap.size) t2)=W):aV W w.heap.size t1 A∧aV W (w.heap.size+1) t2 (f w.heap.size)∧Below w.heap.size w W∧W.heap.size=w.heap.size+2:=by
 subst h;have e:(w.alloc (.cells A t1)).heap.size=w.heap.size+1:=by simp
 refine ⟨(aV.new w t1 A).alloc _, ?_,((Below.refl _ w).alloc (Nat.le_refl _) _).alloc (by simp) _,by simp⟩;have:=aV.new (w.alloc (.cells A t1)) t2 (f w.heap.size)
 rwa [e] at this
def M5 (f:Nat→Value) (q a j:Nat):Nat→Value:=fun x=>if a≤x∧x<a+j then .pointer (some ⟨q,0,none⟩) else f x
theorem MX (f:Nat→Value) (q a:Nat):M5 f q a 0=f:=funext fun x=>if_neg (by omega)
theorem M4 (f:Nat→Value) (q a j:Nat):(fun x=>if x=a+j then Value.pointer (some ⟨q,0,none⟩) else M5 f q a j x)=M5 f q a (j+1):=funext fun i=>by
 unfold M5;by_cases e1:i=a+j
 · rw [if_pos e1,if_pos (by omega)]
 · rw [if_neg e1]
   by_cases e2:a≤i∧i<a+j
   · rw [if_pos e2,if_pos (by omega)]
   · rw [if_neg e2,if_neg (by omega)]
def aas (w4:World) (sp p k pl ow ot oa:Nat) (f:Nat→Value) (q a n:Nat) (i:Value) (wr:World):Prop:= ∃j:Nat,j≤n∧i= .int .i64 (j:Int)∧aV wr sp 174 (CZ p k pl ow ot oa (M5 f q a j))∧aH (fun b=>b=sp) w4 wr
theorem OG {w:World} {sp p g:Nat} {I:Nat→Prop} {c:Addr} {L:List Nat} {X:SG} {n a s bl:Nat} {cls:Int} (h:Sg nL w sp p g I c L X) (h1:1≤n) (h2:n≤15) (hl:aj.low X.K n=some a)
 (hc: ∀op pp,nH ⟨op,pp,cls,a,n,bR (aL X.pl a) s bl⟩):
 Calls Tryz.prog 176 #[.pointer (some ⟨sp,0,none⟩), .int .i64 cls, .int .i64 (n:Int), .int .u64 (s:Int), .int .i64 (bl:Int)] w fun e w'=> ∃op pp I',e= .returned (.tuple #[.pointer (some ⟨op,0,none⟩), .int .i64 0])∧Sg nL w' sp p g I' c L (X.add op pp cls a n bl s)∧w.heap.size≤op∧w.heap.size≤pp∧(∀b,I' b→I b∨w.heap.size≤b)∧aH I w w':=by
 obtain ⟨k,gk,hb,hI⟩:=h.int;have hf:=(aj.jc h1 hl).1;have ht:=Mk.rE hI.M (n:Int);obtain ⟨e1,e2,e3⟩:=Mk.xw h1 (by rw [h.good.len];omega) hl;rw [e1,e2,e3] at ht;obtain ⟨a1,a2,a3⟩:=h.good.free h1 hf;obtain ⟨z1,z2,z3,z4⟩:=(hc 0 0).size h1;have z1:16≤s:=z1;have z2:1≤bl:=z2;have z3:bl≤64:=z3;have z4:bl*s≤n*1024:=z4;have hpl:=h.pl;have gp:aJ L (bR (aL X.pl a) s bl):=aJ.new (by unfold aL;omega) z1 z2 (by omega) (by have:=h.len.1;unfold aL;omega) h.len.2;have hsb:s≤65536:=by
  have:=Nat.mul_le_mul z2 (Nat.le_refl s);omega
 obtain ⟨q1,q2⟩:=CP (g:=X.pl) (l:=a) (o:=0) (by omega) (by omega) (by omega);have had:=fun w=>uR w (X.pl:Int) (a:Int) 0 ⟨by omega,by omega⟩ ⟨by omega,by omega⟩ (by decide);rw [q1,q2,show X.pl*16384+a*1024+0=aL X.pl a by unfold aL;omega] at had;have HT:=Lib.hid ht;have HA:=Lib.hid had;have SI:=Lib.hid hI;have SG:=Lib.hid h;have HZ:=Lib.hid (And.intro hf (And.intro hc gp));have c5:=hI.c5;have HNW:=Lib.hid (fun w' (m:bC w' p g L)=>WI w' m gp);obtain ⟨F,hF⟩: ∃F,aL X.pl a=F:=⟨_,rfl⟩;obtain ⟨P,hP⟩: ∃P,X.pl=P:=⟨_,rfl⟩;rw [hF] at HA HNW;rw [hP] at HA;have HX:=Lib.hid (And.intro hF hP);unfold iW at HNW;clear h hI ht e1 e2 e3 hl hf hc gp z4 q1 q2 had a3 hF hP;go_enter Tryz.func176,Tryz.ntmps176
 go_wp2_with fail
 refine HT.out.mono ?_;rintro e w1 ⟨rfl,hm,hu⟩;have M1:=Lib.hid hm;have U1:=Lib.hid hu;have c0:w1.cell? ⟨sp,0,none⟩=some (.pointer (some ⟨p,0,none⟩)):=(SI.out.B.upd hu SI.out.ng).cell 0;have c1:w1.cell? ⟨sp,1,none⟩=some (.int .i64 (P:Int)):=by rw [←HX.out.2];exact (SI.out.B.upd hu SI.out.ng).cell 1
 clear hm hu c5;go_wp2_with fail
 refine (HA.out _).mono ?_;rintro e w2 ⟨rfl,hb2⟩;have B2:=Lib.hid hb2;have c0:w2.cell? ⟨sp,0,none⟩=some (.pointer (some ⟨p,0,none⟩)):=(hb2.cell (p:=⟨sp,0,none⟩) (World.block_lt_of_cell? _ _ c0)).trans c0;have m2:=(SG.out.mem.upd U1.out (fun e=>SG.out.sep.1 (e▸SI.out.ig)) (fun e=>SG.out.sep.2.1 (e▸SI.out.ig))).upd (ak hb2) id id;have XW:=Lib.hid (HNW.out _ m2);clear hb2 c1 m2;go_wp2_with fail
 refine XW.out.mono ?_;rintro e w3 ⟨pp,rfl,hp,hf3,hb3⟩;have RP:=Lib.hid hp;have B3:=Lib.hid (ah B2.out B2.out.size hb3);have F3:=Lib.hid (Nat.le_trans (Nat.le_trans U1.out.size B2.out.size) hf3);clear hp hf3 hb3 c0;go_wp2;generalize hW:(w3.alloc (.cells #[.pointer none, .int .i64 0, .int .i64 0, .int .i64 0] 100)).alloc (.cells #[.pointer (some ⟨pp,0,none⟩), .int .i64 cls, .int .i64 (a:Int), .int .i64 (n:Int), .pointer (some ⟨w3.heap.size,0,none⟩)] 207)=W4
 obtain ⟨k1,k2,k3,k4⟩:=Sq (f:=fun x=> #[.pointer (some ⟨pp,0,none⟩), .int .i64 cls, .int .i64 (a:Int), .int .i64 (n:Int), .pointer (some ⟨x,0,none⟩)]) hW;have s3:=Nat.le_trans U1.out.size B3.out.size;have bA:=ah B3.out B3.out.size k3;obtain ⟨op,hop⟩: ∃op,w3.heap.size=op:=⟨_,rfl⟩;rw [hop] at k1 k2 s3⊢;obtain ⟨q,hq⟩: ∃q,op+1=q:=⟨_,rfl⟩;rw [hq] at k2⊢;have hsB:=(SI.out.B.upd U1.out SI.out.ng).grew bA;have Zg:sp<op:=by rw [←hop];have:=SI.out.B.lt;have:=U1.out.size;have:=B3.out.size;omega
 have Xe:pp<op:=by rw [←hop];exact RP.out.lt
 have rp4:=RP.out.grew k3;have I0:=Lib.hid (show aas W4 sp p k X.pl X.ow X.ot X.oa (wH X hb) q a n (.int .i64 0) W4 from ⟨0,Nat.zero_le _,rfl,by rw [MX];exact hsB,aH.refl _ _⟩);have K1:=Lib.hid k1;have K2:=Lib.hid k2;have BA:=Lib.hid bA;have RP4:=Lib.hid rp4;have SZ:=Lib.hid (And.intro s3 (And.intro hq (And.intro Zg Xe)));clear hW k1 k2 k3 k4 s3 bA hop hq hsB Zg Xe rp4;go_loopw [66] (fun i wr=>aas W4 sp p k X.pl X.ow X.ot X.oa (wH X hb) q a n i wr) (fun i _=>n-(intOf i).toNat)
 case atStart=>exact I0.out
 case round=>
  clear I0;obtain ⟨j,hj,rfl,hB,hu⟩:=hrel;by_cases hjn:j<n
  · have t1:decide ((j:Int)<(n:Int))=true:=decide_eq_true (by omega)
    have t1':decide (j<n)=true:=decide_eq_true hjn;obtain ⟨m,hm⟩: ∃m,a+j=m:=⟨_,rfl⟩;have Zr:m<16:=by omega
    have em:(a:Int)+(j:Int)=(m:Int):=by omega
    have wm:IntKind.i64.wrap (m:Int)=(m:Int):=IntWalk.i64_in _ ⟨by omega,by omega⟩;have p0:(0:Int)≤(m:Int):=by omega
    have p1:(m:Int)<16:=by omega
    obtain ⟨v,hv⟩: ∃v,M5 (wH X hb) q a j m=v:=⟨_,rfl⟩;have cm:wr.cell? ⟨sp,6+m,none⟩=some v:=by rw [hB.cell,Bv _ _ _ _ _ _ _ Zr,hv]
    have fm:=hB.frozen (6+m);have hput:=hB.put (6+m) (.pointer (some ⟨q,0,none⟩));rw [Jt _ _ _ _ _ _ _ Zr,←hm,M4,hm] at hput;have ej:(((j+1:Nat)):Int)=(j:Int)+1:=by omega
    have HP:=Lib.hid hput;have HU:=Lib.hid (hu.setCell (p:=⟨sp,6+m,none⟩) (.inl rfl) (.pointer (some ⟨q,0,none⟩)));clear hB hu hv hm hput;go_wp2;go_roundw
    case rel=>exact ⟨j+1,by omega,by rw [ej],HP.out,HU.out⟩
    case measure=>simp [intOf];omega
  · obtain rfl:j=n:=by omega
    have t1:decide ((j:Int)<(j:Int))=false:=decide_eq_false (by omega);obtain ⟨x1,x2,x3,x4⟩:=SZ.out;have k1:=K1.out.upd hu (by omega);have k2:=K2.out.upd hu (by omega);have hco:=E_ wr k2 k1 rfl (by omega);have HC:=Lib.hid hco;have HB:=Lib.hid hB;have HU:=Lib.hid hu;have K2':=Lib.hid k2;clear hB hu k1 k2 hco x1 x2 x3 x4;go_wp2_with fail
    refine HC.out.mono ?_;rintro e w9 ⟨rfl,ho,VH⟩;have HO:=Lib.hid ho;have HU9:=Lib.hid VH;clear ho VH;go_wp2
    go_ret2
    obtain ⟨x1,x2,x3,x4⟩:=SZ.out;obtain ⟨y1,y2⟩:=HX.out;obtain ⟨z1,z2,z3⟩:=HZ.out;subst y1;have VH:=HU9.out;have hu:=HU.out;have Ym:=HB.out.upd VH (by omega);have hqo:q≠op:=by omega
    have hM9:=(((M1.out.upd (ak BA.out) id id).upd hu (fun e=>SI.out.nk e.symm) (fun e=>SI.out.ng e.symm)).upd VH (fun e=>by have:=SI.out.M.lt;omega) (fun e=>by have:=SI.out.M.row.lt;omega));have hp9:=(RP4.out.upd hu (fun b hb e=>by
     subst hb;rcases e with e|e|e
     · have:=F3.out;have:=SI.out.B.lt;omega
     · exact SG.out.sep.1 (e▸SI.out.Uk)
     · exact SG.out.sep.2.1 (e▸SI.out.Uk))).upd VH (fun b hb e=>by
     subst hb;rcases e with e|e|e
     · omega
     · have:=SG.out.mem.head.lt;omega
     · have:=SG.out.mem.row.lt;omega)
    have u9:aH (fun b=>b=sp∨b=gk) w w9:=(((U1.out.mono fun b e=> .inr e).trans ((ak BA.out).mono fun _ x=>x.elim)).trans (hu.mono fun b e=> .inl e)).step VH (fun i hi=> .inr (by omega));obtain ⟨I',j1,j2,j3⟩:=Tf SG.out SI.out z1 h1 (z2 op pp) Ym hM9 (K2'.out.upd VH hqo) HO.out hp9 z3 u9 (by omega) x1 F3.out;exact ⟨op,pp,I',rfl,j1,x1,F3.out,j2,j3⟩
end Go.Proofs.YtpibbcnkgdmcbaaGreatDoor
namespace Go.Proofs.YtpibbcnkgdmcbaaGreatDoor
open Go.RowKit aC aF aG aI au
section
variable {w w':World} {sp p g:Nat} {I:Nat→Prop} {c:Addr} {L:List Nat} {X:SG}
theorem Dw (h:Sg nL w sp p g I c L X) (b:Below w.heap.size w w'):Sg nL w' sp p g I c L X where
 int:=by obtain ⟨k,gk,hb,hI⟩:=h.int;exact ⟨k,gk,hb,hI.grew b⟩
 mem:=h.mem.upd (ak b) id id
 len:=h.len
 pl:=h.pl
 good:=h.good
 own o ho:=(h.own o ho).grew b
 pg o ho:=⟨(h.pg o ho).1.grew b,(h.pg o ho).2⟩
 ops:=h.ops
 pps:=h.pps
 sep:=h.sep
theorem Du (w:World) {n:Int} (sp:Nat) (hn:n<0∨12≤n):Calls Tryz.prog 152 #[.pointer (some ⟨sp,0,none⟩), .int .i64 n] w fun e w'=>e= .returned (.tuple #[.pointer none, .int .i64 2])∧Below w.heap.size w w':=by
 have H:=Lib.hid (KW (w:=w) n hn);clear hn;go_enter Tryz.func152,Tryz.ntmps152
 go_wp2_with fail
 refine H.out.mono ?_;rintro e w1 ⟨rfl,hb⟩;have B:=Lib.hid hb;clear hb;go_wp2
 go_ret2
 exact ⟨rfl,B.out⟩
theorem Bu (hl:Lay w) (h:Sg nL w sp p g I c L X) {n:Nat} (hn:n<12) (hlow:aj.low X.K (aM n)=none):Calls Tryz.prog 152 #[.pointer (some ⟨sp,0,none⟩), .int .i64 (n:Int)] w fun e w'=>e= .returned (.tuple #[.pointer none, .int .i64 4])∧Below w.heap.size w w':=by
 have H1:=Lib.hid (lI hl n hn);have H2:=Lib.hid (fun w' (b:Below w.heap.size w w')=>rG (hl.below b) n hn);have H3:=Lib.hid (fun w' (b:Below w.heap.size w w')=>uS (hl.below b) n hn);have sb:=kZ hn;have H4:=Lib.hid (fun w' (b:Below w.heap.size w w')=>uY (Dw h b) sb.1 (by omega) hlow (n:Int) (aK n) ((bE n:Nat):Int));obtain ⟨m,hm⟩: ∃m,aM n=m:=⟨_,rfl⟩;obtain ⟨s,hs⟩: ∃s,aK n=s:=⟨_,rfl⟩;obtain ⟨b,hb⟩: ∃b,bE n=b:=⟨_,rfl⟩;rw [hm] at H1 H4;rw [hs] at H2 H4;rw [hb] at H3 H4;clear hl h hlow sb hm hs hb;go_enter Tryz.func152,Tryz.ntmps152
 go_wp2_with fail
 refine H1.out.mono ?_;rintro e w1 ⟨rfl,hb⟩;have B1:=Lib.hid hb;clear hb;go_wp2_with fail
 refine (H2.out _ B1.out).mono ?_;rintro e w2 ⟨rfl,hb⟩;have B2:=Lib.hid (ah B1.out B1.out.size hb);clear hb;go_wp2_with fail
 refine (H3.out _ B2.out).mono ?_;rintro e w3 ⟨rfl,hb⟩;have B3:=Lib.hid (ah B2.out B2.out.size hb);clear hb;go_wp2_with fail
 refine (H4.out _ B3.out).mono ?_;rintro e w4 ⟨rfl,hb⟩;have B4:=Lib.hid (ah B3.out B3.out.size hb);clear hb;go_wp2
 go_ret2
 exact ⟨rfl,B4.out⟩
def More (w:World) (sp p g:Nat) (I:Nat→Prop) (c:Addr) (L:List Nat) (X:SG) (cls:Int) (a n bl s:Nat) (e:Ending) (w':World):Prop:=
 ∃op pp I',e= .returned (.tuple #[.pointer (some ⟨op,0,none⟩), .int .i64 0])∧Sg nL w' sp p g I' c L (X.add op pp cls a n bl s)∧w.heap.size≤op∧w.heap.size≤pp∧(∀b,I' b→I b∨w.heap.size≤b)∧aH I w w'
theorem GX {w1:World} (b:Below w.heap.size w w1) {cls:Int} {a n bl s:Nat} {e:Ending} (h:More w1 sp p g I c L X cls a n bl s e w'):More w sp p g I c L X cls a n bl s e w':=by
 obtain ⟨op,pp,I',k1,k2,k3,k4,k5,k6⟩:=h;have hs:=b.size;exact ⟨op,pp,I',k1,k2,by omega,by omega,fun x hx=>by rcases k5 x hx with y|y;exact .inl y;exact .inr (by omega),((ak b).mono fun _ x=>x.elim).trans k6⟩
theorem Td (hl:Lay w) (h:Sg nL w sp p g I c L X) {n a:Nat} (hn:n<12) (hlow:aj.low X.K (aM n)=some a):Calls Tryz.prog 152 #[.pointer (some ⟨sp,0,none⟩), .int .i64 (n:Int)] w (More w sp p g I c L X (n:Int) a (aM n) (bE n) (aK n)):=by
 have H1:=Lib.hid (lI hl n hn);have H2:=Lib.hid (fun w' (b:Below w.heap.size w w')=>rG (hl.below b) n hn);have H3:=Lib.hid (fun w' (b:Below w.heap.size w w')=>uS (hl.below b) n hn);have sb:=kZ hn;have H4:Hid (∀w',Below w.heap.size w w'→Calls Tryz.prog 176 #[.pointer (some ⟨sp,0,none⟩), .int .i64 (n:Int), .int .i64 ((aM n:Nat):Int), .int .u64 ((aK n:Nat):Int), .int .i64 ((bE n:Nat):Int)] w' (More w sp p g I c L X (n:Int) a (aM n) (bE n) (aK n))):=Lib.hid fun w' b=>(OG (Dw h b) sb.1 (by omega) hlow (fun op pp=> .inr ⟨n,hn,rfl,rfl,rfl,rfl⟩)).mono fun e w2 k=>GX b k;obtain ⟨m,hm⟩: ∃m,aM n=m:=⟨_,rfl⟩;obtain ⟨s,hs⟩: ∃s,aK n=s:=⟨_,rfl⟩;obtain ⟨b,hb⟩: ∃b,bE n=b:=⟨_,rfl⟩;rw [hm] at H1 H4⊢;rw [hs] at H2 H4⊢;rw [hb] at H3 H4⊢;clear hl h hlow sb hm hs hb;go_enter Tryz.func152,Tryz.ntmps152
 go_wp2_with fail
 refine H1.out.mono ?_;rintro e w1 ⟨rfl,hb⟩;have B1:=Lib.hid hb;clear hb;go_wp2_with fail
 refine (H2.out _ B1.out).mono ?_;rintro e w2 ⟨rfl,hb⟩;have B2:=Lib.hid (ah B1.out B1.out.size hb);clear hb;go_wp2_with fail
 refine (H3.out _ B2.out).mono ?_;rintro e w3 ⟨rfl,hb⟩;have B3:=Lib.hid (ah B2.out B2.out.size hb);clear hb;go_wp2_with fail
 refine (H4.out _ B3.out).mono ?_;rintro e w4 hk;have K:=Lib.hid hk;obtain ⟨op,pp,I',rfl,_⟩:=hk;go_wp2
 go_ret2
 exact K.out
theorem Gm (w:World) {n:Int} (sp:Nat) (hn:n<1∨15<n):Calls Tryz.prog 151 #[.pointer (some ⟨sp,0,none⟩), .int .i64 n] w fun e w'=>e= .returned (.tuple #[.pointer none, .int .i64 2])∧Below w.heap.size w w':=by
 have hc:(decide (n<1)=true)∨(decide (n<1)=false∧decide ((15:Int)<n)=true):=by
  by_cases h0:n<1
  · exact .inl (decide_eq_true h0)
  · exact .inr ⟨decide_eq_false h0,decide_eq_true (by omega)⟩
 clear hn;rcases hc with t1|⟨t1,t2⟩
 all_goals
  go_enter Tryz.func151,Tryz.ntmps151
  go_wp2
  go_ret2
  exact ⟨rfl,Below.refl _ _⟩
theorem Dv (h:Sg nL w sp p g I c L X) {n:Nat} (h1:1≤n) (h2:n≤15) (hlow:aj.low X.K n=none):Calls Tryz.prog 151 #[.pointer (some ⟨sp,0,none⟩), .int .i64 (n:Int)] w fun e w'=>e= .returned (.tuple #[.pointer none, .int .i64 4])∧Below w.heap.size w w':=by
 have t1:decide ((n:Int)<1)=false:=decide_eq_false (by omega);have t2:decide ((15:Int)<(n:Int))=false:=decide_eq_false (by omega);obtain ⟨m,hm⟩: ∃m,n*1024=m:=⟨_,rfl⟩;have H:=Lib.hid (uY h h1 (by omega) hlow (-1) m 1);have w1':IntKind.u64.wrap (n:Int)=(n:Int):=IntWalk.u64_in _ ⟨by omega,by omega⟩;have em:(n:Int)*1024=(m:Int):=by omega
 have w2':IntKind.u64.wrap (m:Int)=(m:Int):=IntWalk.u64_in _ ⟨by omega,by omega⟩;clear h hlow h1 h2 hm;go_enter Tryz.func151,Tryz.ntmps151
 go_wp2_with fail
 refine H.out.mono ?_;rintro e w1 ⟨rfl,hb⟩;have B:=Lib.hid hb;clear hb;go_wp2
 go_ret2
 exact ⟨rfl,B.out⟩
theorem Wz (h:Sg nL w sp p g I c L X) {n a:Nat} (h1:1≤n) (h2:n≤15) (hlow:aj.low X.K n=some a):Calls Tryz.prog 151 #[.pointer (some ⟨sp,0,none⟩), .int .i64 (n:Int)] w (More w sp p g I c L X (-1) a n 1 (n*1024)):=by
 have t1:decide ((n:Int)<1)=false:=decide_eq_false (by omega);have t2:decide ((15:Int)<(n:Int))=false:=decide_eq_false (by omega);have H:Hid (Calls Tryz.prog 176 #[.pointer (some ⟨sp,0,none⟩), .int .i64 (-1), .int .i64 (n:Int), .int .u64 ((n*1024:Nat):Int), .int .i64 1] w (More w sp p g I c L X (-1) a n 1 (n*1024))):=Lib.hid (OG (bl:=1) h h1 h2 hlow (fun op pp=> .inl ⟨rfl,rfl,rfl⟩));obtain ⟨m,hm⟩: ∃m,n*1024=m:=⟨_,rfl⟩;rw [hm] at H⊢;have w1':IntKind.u64.wrap (n:Int)=(n:Int):=IntWalk.u64_in _ ⟨by omega,by omega⟩;have em:(n:Int)*1024=(m:Int):=by omega
 have w2':IntKind.u64.wrap (m:Int)=(m:Int):=IntWalk.u64_in _ ⟨by omega,by omega⟩;clear h hlow h1 h2 hm;go_enter Tryz.func151,Tryz.ntmps151
 go_wp2_with fail
 refine H.out.mono ?_;rintro e w4 hk;have K:=Lib.hid hk;obtain ⟨op,pp,I',rfl,_⟩:=hk;go_wp2
 go_ret2
 exact K.out
end
end Go.Proofs.YtpibbcnkgdmcbaaGreatDoor
namespace Go.Proofs.YtpibbcnkgdmcbaaGreatDoor
open Go.RowKit aC aF aG aI au
theorem Fb (w:World) {b o x t:Nat} {n:Int} (h:CC w b o x t n) (y:Nat):
 Calls Tryz.prog 82 #[.pointer (some ⟨b,o,none⟩), .int .u64 (y:Int)] w fun e w'=>e= .returned (.tuple #[])∧CC w' b o y (xB t) (wrap64 (n+1))∧dA (fun _=>False) (zG b o) w w':=by
 have c2:=h.c2;have f2:=h.frozen (o+2);obtain ⟨m,hm⟩: ∃m,wrap64 (n+1)=m:=⟨_,rfl⟩;have W:=Lib.hid ((dA.refl (fun _=>False) (zG b o) w).setCell (b:=b) (i:=o+2) ⟨rfl,Or.inr (Or.inr rfl)⟩ (.int .i64 m));have H:=Lib.hid (vN _ (h.ask m) y);rw [hm];clear h;go_enter Tryz.func82,Tryz.ntmps82
 go_wp2_with fail
 refine H.out.mono ?_;rintro e w1 ⟨rfl,k1,k2⟩;have K:=Lib.hid k1;have W2:=Lib.hid (W.out.trans k2);clear k1 k2 c2 f2;go_wp2;refine bodyPost_end (results_none rfl _ _ _) rfl ?_;exact ⟨rfl,K.out,W2.out⟩
theorem wZ (a:Nat):wrap64 (wrap64 (a:Int)+1)=wrap64 ((a+1:Nat):Int):=by
 unfold wrap64;omega
section
variable {w w':World} {sp p g:Nat} {I:Nat→Prop} {c:Addr} {L:List Nat} {X:SG} {k gk:Nat} {hb:Nat→Nat}
theorem Ab (h:Sg nL w sp p g I c L X) (hI:mH w sp p I c X k gk hb) {x t a:Nat} {n:Int} (kc:CC w' sp 2 x (t%18446744073709551616) n) (W:dA (fun _=>False) (zG sp 2) w w') (e:n=wrap64 (a:Int)) (hx:x≤18446744073709551615):
 Sg nL w' sp p g I c L {X with ow:=x,ot:=t,oa:=a}∧aH I w w':=by
 have u:aH (fun b=>b=sp) w w':=W.upd.mono fun b hb=>by
  rcases hb with hb|⟨i,hb,_⟩
  · exact hb.elim
  · exact hb
 have uI:aH I w w':=u.mono fun b e=>e▸hI.Uk;have b:=hI.B.BQ W id kc;rw [e] at b;refine ⟨⟨⟨k,gk,hb,⟨b,hI.M.upd u (fun e=>hI.nk e.symm) (fun e=>hI.ng e.symm),fun o ho=>(hI.hd o ho).upd u (hI.nh o ho).1,hI.nI,hI.c,hx,hI.nk,hI.ng,hI.nh⟩⟩,h.mem.upd uI h.sep.1 h.sep.2.1,h.len,h.pl,⟨h.good.len,h.good.mark,h.good.rise,h.good.fit,h.good.run,h.good.cls,h.good.sum⟩,fun o ho=>(h.own o ho).upd uI (h.sep.2.2 o ho).1,fun o ho=>⟨(h.pg o ho).1.upd uI fun b hb e=> ?_,(h.pg o ho).2⟩,h.ops,h.pps,h.sep⟩,uI⟩;rcases e with rfl|rfl|rfl
 · exact (h.sep.2.2 o ho).2.1 hb
 · exact h.sep.1 hb
 · exact h.sep.2.1 hb
end
def Ya (w0:World) (hl:Lay w0):fH w0 where
 Int':=nL
 Gi {w sp p I c X pp S} h:=by obtain ⟨k,gk,hb,hI⟩:=h;exact ⟨k,gk,hb,hI.put pp S⟩
 upd {w sp p I c X w' T} h u hT:=by obtain ⟨k,gk,hb,hI⟩:=h;exact ⟨k,gk,hb,hI.upd u hT⟩
 num {w sp p I c X} h:=by
  obtain ⟨k,gk,hb,hI⟩:=h;have hc:=hI.c;subst hc;exact ⟨hI.Uk,hI.Uk,hI.ow,fun b=>hI.lt⟩
 spB {w sp p I c X} h:=by
  obtain ⟨k,gk,hb,h⟩:=h;exact ⟨_,_,h.B⟩
 ownB {w sp p I c X} h:=by
  obtain ⟨k,gk,hb,hI⟩:=h;have hc:=hI.c;subst hc;exact ⟨_,_,hI.B⟩
 new w hw {p g pl L} hm hlen hpl:=Wy w hm hlen hpl
 JM w hw {p g L pl} hm hlen hi hp:=Gl w hm hlen hi hp
 place w hw {sp p g I c L X} h:=by obtain ⟨k,gk,hb,hI⟩:=h.int;exact OB hI
 owner w hw {sp p g I c L X} h:=by obtain ⟨k,gk,hb,hI⟩:=h.int;exact OE hI
 left w hw {sp p g I c L X} h:=by obtain ⟨k,gk,hb,hI⟩:=h.int;exact Tg hI
 Pp w {n} _:=Dt w
 Pq w hw {sp p g I c L X n} h _ hn:=Du w sp hn
 Ag w hw {sp p g I c L X n} h hn hlow:=Bu (hl.below hw) h hn hlow
 page w hw {sp p g I c L X n a} h hn hlow:=Td (hl.below hw) h hn hlow
 U4 w hw {sp p g I c L X n} h _ hn:=Gm w sp hn
 Fq w hw {sp p g I c L X n} h h1 h2 hlow:=Dv h h1 h2 hlow
 big w hw {sp p g I c L X n a} h h1 h2 hlow:=Wz h h1 h2 hlow
 drop w hw {sp p g I c L X n} h hn:=by
  obtain ⟨k,gk,hb,hI⟩:=h.int;refine (Tj h hI hn).mono fun e w' ⟨I',k1,k2,k3,k4⟩=>⟨I',k1, ?_,fun b hb=> .inl (k3 b hb),k4⟩;have hsub: ∀o∈(iL X n).1.L,o∈X.L:=by
   unfold iL;cases Nu X n with
   |none=>exact fun o h=>h
   |some x=>
    simp only [];split
    · exact fun o h=>h
    · exact fun o h=>(List.mem_filter.1 h).1
  have hls:(iL X n).1.L.Sublist X.L:=by
   unfold iL;cases Nu X n with
   |none=>exact List.Sublist.refl _
   |some x=>
    simp only [];split
    · exact List.Sublist.refl _
    · exact List.filter_sublist
  have hpl:(iL X n).1.pl=X.pl:=by
   unfold iL;cases Nu X n with
   |none=>rfl
   |some x=>
    simp only [];split<;>rfl
  exact ⟨⟨k,gk,hb,k2⟩,h.mem.upd k4 h.sep.1 h.sep.2.1,(by rw [hpl];exact h.len),(by rw [hpl];exact h.pl),h.good.dropped n,fun o ho=>(h.own o (hsub o ho)).upd k4 (h.sep.2.2 o (hsub o ho)).1,fun o ho=>⟨(h.pg o (hsub o ho)).1.upd k4 fun b hb e=>by
   rcases e with rfl|rfl|rfl
   · exact (h.sep.2.2 o (hsub o ho)).2.1 hb
   · exact h.sep.1 hb
   · exact h.sep.2.1 hb,(h.pg o (hsub o ho)).2⟩,h.ops.sublist (hls.map _),h.pps.sublist (hls.map _),fun x=>h.sep.1 (k3 _ x),fun x=>h.sep.2.1 (k3 _ x),fun o ho=>by
   obtain ⟨s1,s2,s3,s4,s5⟩:=h.sep.2.2 o (hsub o ho);exact ⟨fun x=>s1 (k3 _ x),fun x=>s2 (k3 _ x),s3,s4,fun x hx=>s5 x (hsub x hx)⟩⟩
 find w hw {sp p g I c L X a} h ha:=Ti h ha
 pages w hw {sp p g I c L X} h:=OD h
 Vy w hw {sp p g I c L X} h ht:=by
  obtain ⟨k,gk,hb,hI⟩:=h.int;have hc:=hI.c;subst hc;refine (IW w hI.post).mono fun e w' ⟨k1,k2,k3⟩=>⟨?_,Ab h hI k2 k3 (wZ _) hI.ow⟩;rw [k1,show X.ot%18446744073709551616=X.ot by omega]
 Py w hw {sp p g y I c L X} h ht hy:=by
  obtain ⟨k,gk,hb,hI⟩:=h.int;have hc:=hI.c;subst hc;refine (Fb w hI.post y).mono fun e w' ⟨k1,k2,k3⟩=>⟨k1, ?_⟩;rw [show xB (X.ot%18446744073709551616)=(X.ot+1)%18446744073709551616 by unfold xB;omega] at k2;exact Ab h hI k2 k3 (wZ _) hy
theorem kn {w:World} (hl:Lay w):Kn w where
 size c hc w' hw:=rG (hl.below hw) c hc
 slices c hc w' hw:=lI (hl.below hw) c hc
 blocks c hc w' hw:=uS (hl.below hw) c hc
end Go.Proofs.YtpibbcnkgdmcbaaGreatDoor
