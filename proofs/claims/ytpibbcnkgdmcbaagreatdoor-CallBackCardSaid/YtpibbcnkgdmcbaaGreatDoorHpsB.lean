/- HpsB: texts of layers below, joined (HpH HpI HpJ HpK HpL HpM HpN HpO HpP HpQ HpR Hpc). -/
import Derived.Test.YtpibbcnkgdmcbaaGreatDoorHpsA
set_option linter.unusedVariables false
set_option maxRecDepth 100000
set_option maxHeartbeats 8000000
namespace Go.Proofs.YtpibbcnkgdmcbaaGreatDoor
open Go.RowKit aC aF aG aI au aD aB aA
theorem DI {X:SG} (hn:(X.L.map fun o=>o.pp).Nodup) {o:bY} (ho:o∈X.L):X.put o.pp o.P=X:=by
 have e:(X.L.map fun x=>if x.pp=o.pp then {x with P:=o.P} else x)=X.L:=by
  conv=>rhs;rw [←List.map_id X.L]
  refine List.map_congr_left fun x hx=> ?_;by_cases e:x.pp=o.pp
  · rw [if_pos e,Pj hn hx ho e];rfl
  · rw [if_neg e];rfl
 unfold SG.put;rw [e]
theorem Mw (S:PG) (a:Nat):dI S [a]=((bg S a).1,(bg S a).2):=by
 show (if (bg S a).2=0 then ((bg S a).1,0) else bg S a)=_;split
 · rename_i e;rw [e]
 · rfl
abbrev eY (b:SB) (o:bY) (S:PG):SB:={b with X:=b.X.put o.pp S}
theorem kX {b:SB} {o:bY} {S:PG} {x:Nat}:BP (eY b o S) x↔BP b x:=by
 constructor
 · rintro (hx|⟨u,hu,hx⟩)
   · exact .inl hx
   · obtain ⟨v,hv,rfl⟩:=put_mem.1 hu
     obtain ⟨e1,e2,e3,e4,e5⟩:=dL v o.pp S;rw [e3,e4] at hx;exact .inr ⟨v,hv,hx⟩
 · rintro (hx|⟨u,hu,hx⟩)
   · exact .inl hx
   · obtain ⟨e1,e2,e3,e4,e5⟩:=dL u o.pp S
     exact .inr ⟨_,put_mem.2 ⟨u,hu,rfl⟩,by rw [e3,e4];exact hx⟩
section
variable {w0 ws w w':World} {C:fH w0} {h id p g q:Nat} {O own own' T:Nat→Prop} {L L' Y:List Nat} {A A':St} {B B' l r R R':List SB} {b:SB} {o:bY} {S:PG} {Q:Nat→QR}
theorem Hn.FV (n:Hn C ws T w h O id p g q own L A (l++b::r) R Q) (ho:o∈b.X.L):XR w o.pp p g (OO o.pp p g) ⟨o.pp,10,none⟩ L o.P:=(n.z.sg (List.mem_append_right _ (List.mem_cons_self ..))).page ho
theorem Hn.page (n:Hn C ws T w h O id p g q own L A (l++b::r) R Q) (ho:o∈b.X.L) (hT: ∀k,EO p g own (l++b::r) k→T k∨ws.heap.size≤k) (k:XR w' o.pp p g (OO o.pp p g) ⟨o.pp,10,none⟩ L' S) (u:aH (OO o.pp p g) w w') (ha:Agree L L' Y) (hY: ∀y∈Y,o.P.f≤y∧y+8≤o.P.f+o.P.n*o.P.s) (hs:S.f=o.P.f∧S.s=o.P.s∧S.n=o.P.n):
 Hn C ws T w' h O id p g q own L' A (l++eY b o S::r) R Q:=by
 have jL:b∈l++b::r:=List.mem_append_right _ (List.mem_cons_self ..);have hsg:=n.z.sg jL;have hw:=hsg.good.within ho;have hf:=hsg.good.fit o ho;refine n.seg (b':=eY b o S) (hsg.turn ho k u ha hY hs) rfl rfl u (fun x hx=> ?_) ha (fun y hy=> ?_) (fun x hx=> .inl (kX.1 hx)) fun x hx=>hT x ?_
 · rcases hx with e|e|e
   · exact .inl (.inr ⟨o,ho, .inr e⟩)
   · exact .inr (.inl e)
   · exact .inr (.inr e)
 · have h1:=hY y hy
   unfold aL at hw;omega
 · rcases hx with e|e|e
   · exact .inr (.inr (.inr ⟨b,jL, .inr ⟨o,ho, .inr e⟩⟩))
   · exact .inl e
   · exact .inr (.inl e)
theorem Ju {w:World} {a:Nat} {w2:World} (h:w2=w.alloc (.cells #[.int .u64 (a:Int)] 22)):Seq Elem.jl w2 (.slice (some ⟨w.heap.size,0,none⟩) 1 1) [a]:=by rw [h];exact tX w _ a _ rfl
theorem Cj (n:Hn C ws T w h O id p g q own L A (l++b::r) R Q) (ho:o∈b.X.L) {a:Nat} (ha:bM a) (hv:dN o.P a≠0) {w2:World} (h2:w2=w.alloc (.cells #[.int .u64 (a:Int)] 22)):
 Calls Tryz.prog 129 #[.pointer (some ⟨o.pp,0,none⟩), .slice (some ⟨w.heap.size,0,none⟩) 1 1] w2 fun e w'=>e= .returned (.int .i64 (dN o.P a))∧Below w.heap.size w w':=by
 have hb2:Below w.heap.size w w2:=by rw [h2];exact (Below.refl _ _).alloc (Nat.le_refl _) _
 have k:=(n.grew hb2).FV ho;exact (D5 w2 k.1 k.2.1 (Ju h2) ha hv).mono fun e w' ⟨e1,e2⟩=>⟨e1,ah hb2 hb2.size e2⟩
theorem zR (n:Hn C ws T w h O id p g q own L A (l++b::r) R Q) (ho:o∈b.X.L) (hT: ∀k,EO p g own (l++b::r) k→T k∨ws.heap.size≤k) {a:Nat} (ha:bM a) (hv:dN o.P a=0) (hne:a∉o.P.F∧a∉o.P.G) {w2:World} (h2:w2=w.alloc (.cells #[.int .u64 (a:Int)] 22)):
 Calls Tryz.prog 129 #[.pointer (some ⟨o.pp,0,none⟩), .slice (some ⟨w.heap.size,0,none⟩) 1 1] w2 fun e w'=>e= .returned (.int .i64 (bg o.P a).2)∧ ∃L',Agree L L' [a]∧aJ L' (bg o.P a).1∧Hn C ws T w' h O id p g q own L' A (l++eY b o (bg o.P a).1::r) R Q∧w.heap.size≤w'.heap.size:=by
 have hb2:Below w.heap.size w w2:=by rw [h2];exact (Below.refl _ _).alloc (Nat.le_refl _) _
 have n2:=n.grew hb2;have k:=n2.FV ho;have hbk:=Ay k.2.1 hv;have hfit:=hbk.fits k.2.1.made (Nat.le_refl _);have Uq:=k.2.1.s16;obtain ⟨i,_,ei⟩:=hbk;refine (JJ w2 k.1 k.2.1 k.2.2.1 (Ju h2) (fun x hx hO=> ?_) (by omega) (fun x hx=>by rw [List.mem_singleton.1 hx];exact ha) (fun j x hj hz hg=> ?_)).mono fun e w' ⟨e1,L',k2,k3,k4,k5,k6⟩=> ?_
 · have e:=nu hx
   have h3:x<w.heap.size:=by
    rcases hO with e|e|e
    · rw [e];exact (n.FV ho).1.lt
    · rw [e];exact (n.FV ho).1.mem.head.lt
    · rw [e];exact (n.FV ho).1.mem.row.lt
   omega
 · have hj0:j=0:=by
    have:=(List.getElem?_eq_some_iff.1 hj).1;simp at this;exact this
   subst hj0;have hx:x=a:=by simpa using hj.symm
   subst hx;exact hne
 · rw [Mw] at e1 k2 k3 k4
   refine ⟨e1,L',k5,k3,n2.page ho hT ⟨k2,k3,k4,by rw [QD];exact k.2.2.2.1,rfl,rfl⟩ k6 k5 (fun y hy=> ?_) (qM o.P a),Nat.le_trans hb2.size k6.size⟩;rw [List.mem_singleton.1 hy];omega
theorem iJ {w1:World} {B1:List SB} {H':HS} {M:List Nat→Prop} (td:vR C w (HO p g own O B) w1 h id p g q own L' B1 R H' A' w') (hE: ∀k,EO p g own B1 k→EO p g own B k∨w.heap.size≤k) (h1:w.heap.size≤w1.heap.size) (gd:aO H') (hl:L'.length=L.length) (hM:M L'):Turned C gI w h O id p g q own L B R w' H' A' M:=by
 obtain ⟨O',own',B',n,hB,he⟩:=td;have eH:aN B' H'.Q=H':=oO hB rfl;refine ⟨O',own',L',B',n.z.to (by rw [eH];exact gd),hB,hl,hM,fun k hk=> ?_,n.u⟩;rcases hk with hk|hk
 · exact n.t k hk
 · rcases he k hk with x|x
   · exact (hE k x).imp .inr fun x=>x
   · exact .inr (by omega)
end
end Go.Proofs.YtpibbcnkgdmcbaaGreatDoor
namespace Go.Proofs.YtpibbcnkgdmcbaaGreatDoor
open Go.RowKit aC aF aG aI au aD aB aA
theorem Jm {l r:List SB} {b:SB} {o:bY} {S:PG} {Q:Nat→QR} (hn:((l++b::r).map fun b=>b.X.pl).Nodup):
 aN (l++eY b o S::r) (iV Q (qi o.cls) (dK (Q (qi o.cls)) (aD.keyOf b.X o)).1)=lG (aN (l++b::r) Q) b.X o S:=by
 refine oO ?_ rfl;show (l++eY b o S::r).map (fun b=>b.X)=((aN (l++b::r) Q).eu (b.X.put o.pp S)).B;rw [rU (X':=b.X.put o.pp S) hn rfl,List.map_append,List.map_cons]
theorem Jz {l r:List SB} {b:SB} {o:bY} {S:PG} {Q:Nat→QR} (hn:((l++b::r).map fun b=>b.X.pl).Nodup):
 aN (l++eY b o S::r) Q=(aN (l++b::r) Q).eu (b.X.put o.pp S):=by
 refine oO ?_ rfl;show (l++eY b o S::r).map (fun b=>b.X)=((aN (l++b::r) Q).eu (b.X.put o.pp S)).B;rw [rU (X':=b.X.put o.pp S) hn rfl,List.map_append,List.map_cons]
section
variable {w0 w w':World} {C:fH w0} {h id p g q:Nat} {O own:Nat→Prop} {L L':List Nat} {A A':St} {B R:List SB} {Q:Nat→QR}
theorem mK {H':HS} {M:List Nat→Prop} (hw:Below w0.heap.size w0 w) (z:Hz C gI w h O id p g q own L A B R Q) (hb:Below w.heap.size w w') (eH:H'=aN B Q) (hA:A'=A) (hM:M L):Turned C gI w h O id p g q own L B R w' H' A' M:=by
 subst eH hA;have n:=(Hn.start (T:=HO p g own O B) hw (Hr.of z) fun k hk=> .inl hk).grew hb;exact iJ (td:=⟨O,own,B,n,rfl,fun k hk=> .inl hk⟩) (fun k hk=> .inl hk) (Nat.le_refl _) z.good rfl hM
theorem Cc (LY:Lay w0) (hw:Below w0.heap.size w0 w) {a:Nat} (z:Hz C gI w h O id p g q own L A B R Q) (ha:bM a) (hf:dO (aN B Q) a=none):
 Calls Tryz.prog 90 #[.pointer (some ⟨h,0,none⟩), .int .u64 (a:Int)] w fun e w'=>e= .returned (.int .i64 5)∧Below w.heap.size w w':=by
 have FI:=Lib.hid (oW hw (Hr.of z) ha);have qY:=wT B Q a;cases hB:jI B a with
 |some zz=>rw [hB,hf] at qY;cases qY
 |none=>
  rw [hB] at FI;change Hid (Calls _ _ _ _ fun e w'=>e= .returned (.tuple #[.pointer none, .pointer none])∧_) at FI;clear qY hB hf z ha hw;go_enter Tryz.func90,Tryz.ntmps90
  go_wp2_with fail
  refine FI.out.mono ?_;rintro e w1 ⟨rfl,hb⟩;have B1:=Lib.hid hb;clear hb;go_wp2;go_ret;exact ⟨rfl,B1.out⟩
theorem Uv (LY:Lay w0) (hw:Below w0.heap.size w0 w) {a:Nat} (z:Hz C gI w h O id p g q own L A B R Q) (ha:bM a) (hne: ∀X o,dO (aN B Q) a=some (X,o)→dN o.P a=0→a∉o.P.F∧a∉o.P.G):
 Calls Tryz.prog 90 #[.pointer (some ⟨h,0,none⟩), .int .u64 (a:Int)] w fun e w'=>e= .returned (.int .i64 (fJ (aN B Q) A a).2)∧Turned C gI w h O id p g q own L B R w' (fJ (aN B Q) A a).1.1 (fJ (aN B Q) A a).1.2 fun L'=>Agree L L' [a]∧ ∀X o,dO (aN B Q) a=some (X,o)→aJ L' (bg o.P a).1:=by
 have n0:=Hn.start (T:=HO p g own O B) hw (Hr.of z) fun k hk=> .inl hk;have FI:=Lib.hid (oW hw (Hr.of z) ha);have qY:=wT B Q a;obtain ⟨H',pQ⟩: ∃H',(fJ (aN B Q) A a).1.1=H':=⟨_,rfl⟩;obtain ⟨A',hA'⟩: ∃A',(fJ (aN B Q) A a).1.2=A':=⟨_,rfl⟩;obtain ⟨er,her⟩: ∃er,(fJ (aN B Q) A a).2=er:=⟨_,rfl⟩;rw [pQ,hA',her];cases hf:jI B a with
 |none=>
  rw [hf] at FI qY;change dO (aN B Q) a=none at qY;change Hid (Calls _ _ _ _ fun e w'=>e= .returned (.tuple #[.pointer none, .pointer none])∧_) at FI;have e0:fJ (aN B Q) A a=((aN B Q,A),5):=by unfold fJ;rw [qY]
  rw [e0] at pQ hA' her;have FIN:Hid (∀w2,Below w.heap.size w w2→Turned C gI w h O id p g q own L B R w2 H' A' fun L'=>Agree L L' [a]∧ ∀X o,dO (aN B Q) a=some (X,o)→aJ L' (bg o.P a).1):=Lib.hid fun w2 hb=>
   mK hw z hb pQ.symm hA'.symm ⟨(Agree.refl L []).mono (fun x hx=>by cases hx),fun X o hx=>by rw [qY] at hx;cases hx⟩
  obtain rfl:er=5:=her.symm;clear n0 qY pQ hA' her hf e0 z hne ha hw;go_enter Tryz.func90,Tryz.ntmps90
  go_wp2_with fail
  refine FI.out.mono ?_;rintro e w1 ⟨rfl,hb⟩;have F1:=Lib.hid (FIN.out w1 hb);clear hb;go_wp2;go_ret;exact ⟨rfl,F1.out⟩
 |some zz=>
  obtain ⟨b,o⟩:=zz;rw [hf] at FI qY;change dO (aN B Q) a=some (b.X,o) at qY;change Hid (Calls _ _ _ _ fun e w'=>e= .returned (.tuple #[.pointer (some ⟨b.sp,0,none⟩), .pointer (some ⟨o.op,0,none⟩)])∧_) at FI;obtain ⟨pY,hfo⟩:=yV hf;have ho:=(gW hfo).1;obtain ⟨l,r,rfl⟩:=List.append_of_mem pY;have hs:=n0.z.sg pY;have gp:=(n0.FV ho).2.1;have wR:b.X∈(aN (l++b::r) Q).B:=List.mem_map.2 ⟨b,pY,rfl⟩;have D0:=Lib.hid (fun w2 (hb2:Below w.heap.size w w2)=>show w2.cell? ⟨o.op,0,none⟩=some (.pointer (some ⟨o.pp,0,none⟩)) from ((hs.grew hb2).own o ho).cell 0);by_cases hv:dN o.P a=0
  · have hT: ∀k,EO p g own (l++b::r) k→HO p g own O (l++b::r) k∨w.heap.size≤k:=fun k hk=> .inl (.inr hk)
    have PF:=Lib.hid (fun w1 w2 (hb1:Below w.heap.size w w1) (h2:w2=w1.alloc (.cells #[.int .u64 (a:Int)] 22))=>zR (n0.grew hb1) ho hT ha hv (hne _ _ qY hv) h2);obtain ⟨S1,hS1⟩: ∃S1,(bg o.P a).1=S1:=⟨_,rfl⟩;obtain ⟨fe,hfe⟩: ∃fe,(bg o.P a).2=fe:=⟨_,rfl⟩;rw [hS1,hfe] at PF;have hsame:S1.f=o.P.f∧S1.s=o.P.s∧S1.n=o.P.n:=by rw [←hS1];exact qM o.P a
    by_cases hf0:fe=0
    · subst hf0
      have t1:((0:Int) !=0)=false:=by decide
      have e0:fJ (aN (l++b::r) Q) A a=(gK (lG (aN (l++b::r) Q) b.X o S1) A (b.X.put o.pp S1) {o with P:=S1},0):=by
       unfold fJ;rw [qY];simp only [];rw [if_neg (by rw [hfe];simp),hS1]
      rw [e0] at pQ hA' her;obtain rfl:er=0:=her.symm;have gw:=l8 z.good wR ho hsame;have ho1:=mV ho S1;have WK:Hid (∀w2 L',Hn C w (HO p g own O (l++b::r)) w2 h O id p g q own L' A (l++eY b o S1::r) R Q→Calls Tryz.prog 130 #[.pointer (some ⟨h,0,none⟩), .pointer (some ⟨o.op,0,none⟩)] w2 fun e w'=>e= .returned (.tuple #[])∧ ∃O',Hn C w (HO p g own O (l++b::r)) w' h O' id p g q own L' A (l++eY b o S1::r) R (iV Q (qi o.cls) (dK (Q (qi o.cls)) (aD.keyOf b.X o)).1)∧w2.heap.size≤w'.heap.size):=Lib.hid fun w2 L' n2=>by
       refine (Df LY (Hn.start (T:=O) n2.b n2.z fun k hk=>hk) (List.mem_append_right _ (List.mem_cons_self ..)) ho1).mono fun e w' ⟨e1,O',n3⟩=>⟨e1,O',n2.then n3,n3.u.size⟩
      have TD:Hid (∀w3 L' O',L'.length=L.length→Agree L L' [a]→aJ L' S1→w.heap.size≤w3.heap.size→Hn C w (HO p g own O (l++b::r)) w3 h O' id p g q own L' A (l++eY b o S1::r) R (iV Q (qi o.cls) (dK (Q (qi o.cls)) (aD.keyOf b.X o)).1)→Calls Tryz.prog 131 #[.pointer (some ⟨h,0,none⟩), .pointer (some ⟨b.sp,0,none⟩), .pointer (some ⟨o.op,0,none⟩)] w3 fun e w'=>e= .returned (.tuple #[])∧Turned C gI w h O id p g q own L (l++b::r) R w' H' A' fun L'=>Agree L L' [a]∧ ∀X o,dO (aN (l++b::r) Q) a=some (X,o)→aJ L' (bg o.P a).1):=Lib.hid fun w3 L' O' hl hag Mi h3 n3=>by
       have eW:=Jm (S:=S1) (o:=o) (Q:=Q) n0.z.jK;have:=xu LY n3 (o:={o with P:=S1}) (by rw [eW];exact gw) ho1 fun k hk=> ?_
       · rw [eW] at this
         change Calls _ _ _ _ fun e w'=>_∧vR C w (HO p g own O (l++b::r)) w3 h id p g q own L' (l++eY b o S1::r) R (gK (lG (aN (l++b::r) Q) b.X o S1) A (b.X.put o.pp S1) {o with P:=S1}).1 (gK (lG (aN (l++b::r) Q) b.X o S1) A (b.X.put o.pp S1) {o with P:=S1}).2 w' at this;rw [pQ,hA'] at this;refine this.mono fun e w' ⟨e1,td⟩=>⟨e1,iJ td (fun k hk=>nN (fun x hx=> .inl (kX.1 hx)) hk) h3 ?_ hl ⟨hag,fun X u hu=> ?_⟩⟩
         · rw [←pQ];exact uF gw (bW.2 (.inl ⟨rfl,b.X,wR,rfl⟩)) ho1
         · rw [qY] at hu
           cases hu;rw [hS1];exact Mi
       · rcases hk with hk|hk
         · exact .inl (.inr (.inr (.inr (.inr ⟨b,pY,kX.1 hk⟩))))
         · exact .inl (.inr (.inr (.inr (.inl hk))))
      obtain ⟨sp,hsp⟩: ∃sp,b.sp=sp:=⟨_,rfl⟩;obtain ⟨op,hop⟩: ∃op,o.op=op:=⟨_,rfl⟩;obtain ⟨pp,hpp⟩: ∃pp,o.pp=pp:=⟨_,rfl⟩;rw [hop,hpp] at D0;rw [hpp] at PF;rw [hop] at WK;rw [hsp,hop] at TD FI;clear n0 qY pQ hA' her hf e0 z hne ha hw pY hfo ho hs gp wR hv hT hS1 hfe hsame gw ho1 hsp hop hpp;go_enter Tryz.func90,Tryz.ntmps90
      go_wp2_with fail
      refine FI.out.mono ?_;rintro e w1 ⟨rfl,hb⟩;have B1:=Lib.hid hb;have d0:=D0.out w1 hb;clear hb;go_wp2_with fail
      refine (PF.out w1 _ B1.out rfl).mono ?_;rintro e w2 ⟨rfl,L2,h1,h2,h3,h4⟩;have N2:=Lib.hid h3;have A2:=Lib.hid h1;have G2:=Lib.hid h2;have Z2:=Lib.hid (Nat.le_trans B1.out.size h4);clear h1 h2 h3 h4 d0;go_wp2_with fail
      refine (WK.out _ _ N2.out).mono ?_;rintro e w3 ⟨rfl,O3,Qo,hz3⟩;have N3:=Lib.hid Qo;have Z3:=Lib.hid (Nat.le_trans Z2.out hz3);clear Qo hz3;go_wp2_with fail
      refine (TD.out _ _ _ A2.out.1 A2.out G2.out Z3.out N3.out).mono ?_;rintro e w4 ⟨rfl,ht⟩;have T4:=Lib.hid ht;clear ht;go_wp2;go_ret;exact ⟨rfl,T4.out⟩
    · have hfr:(bg o.P a).1=o.P∧S1=o.P:=by
       have:(bg o.P a).1=o.P:=by
        unfold bg at hfe⊢;rw [if_neg (by rw [hv];simp)] at hfe⊢;split at hfe
        · rename_i hu;rw [if_pos hu]
        · exact absurd hfe.symm hf0
       exact ⟨this,hS1.symm.trans this⟩
      have e0:fJ (aN (l++b::r) Q) A a=((aN (l++b::r) Q,A),fe):=by
       unfold fJ;rw [qY];simp only [];rw [if_pos (by rw [hfe];exact hf0),hfe]
      rw [e0] at pQ hA' her;have hb1:eY b o S1=b:=by
       unfold eY;rw [hfr.2,DI hs.pps ho]
      have PF:=Lib.hid (fun w1 w2 (hb1':Below w.heap.size w w1) (h2:w2=w1.alloc (.cells #[.int .u64 (a:Int)] 22))=>(PF.out w1 w2 hb1' h2).mono fun e w' ⟨k1,L',k2,k3,k4,k5⟩=>show e=Ending.returned (.int .i64 er)∧Turned C gI w h O id p g q own L (l++b::r) R w' H' A' (fun L'=>Agree L L' [a]∧ ∀X o,dO (aN (l++b::r) Q) a=some (X,o)→aJ L' (bg o.P a).1) from ⟨k1.trans (by rw [←her]),by
       rw [hb1] at k4;exact iJ (td:=⟨O,own,l++b::r,by rw [←pQ,←hA'];exact k4,by rw [←pQ];rfl,fun k hk=> .inl hk⟩) (fun k hk=> .inl hk) (Nat.le_refl _) (by rw [←pQ];exact z.good) k2.1 ⟨k2,fun X u hu=>by
        rw [qY] at hu;cases hu;rw [hS1];exact k3⟩⟩)
      have t1:(er !=0)=true:=by rw [←her,bne_iff_ne];exact hf0
      clear her hf0;obtain ⟨sp,hsp⟩: ∃sp,b.sp=sp:=⟨_,rfl⟩;obtain ⟨op,hop⟩: ∃op,o.op=op:=⟨_,rfl⟩;obtain ⟨pp,hpp⟩: ∃pp,o.pp=pp:=⟨_,rfl⟩;rw [hop,hpp] at D0;rw [hpp] at PF;rw [hsp,hop] at FI;clear n0 qY pQ hA' hf e0 z hne ha hw pY hfo ho hs gp wR hv hT hS1 hfe hsame hfr hb1 hsp hop hpp;go_enter Tryz.func90,Tryz.ntmps90
      go_wp2_with fail
      refine FI.out.mono ?_;rintro e w1 ⟨rfl,hb⟩;have B1:=Lib.hid hb;have d0:=D0.out w1 hb;clear hb;go_wp2_with fail
      refine (PF.out w1 _ B1.out rfl).mono ?_;rintro e w2 ⟨rfl,ht⟩;have T2:=Lib.hid ht;clear ht d0;go_wp2;go_ret;exact ⟨rfl,T2.out⟩
  · have hfe:bg o.P a=(o.P,dN o.P a):=by unfold bg;rw [if_pos hv]
    have e0:fJ (aN (l++b::r) Q) A a=((aN (l++b::r) Q,A),dN o.P a):=by
     unfold fJ;rw [qY];simp only [];rw [hfe,if_pos hv]
    rw [e0] at pQ hA' her;have PF:=Lib.hid (fun w1 w2 (hb1':Below w.heap.size w w1) (h2:w2=w1.alloc (.cells #[.int .u64 (a:Int)] 22))=>(Cj (n0.grew hb1') ho ha hv h2).mono fun e w' ⟨k1,k2⟩=>show e=Ending.returned (.int .i64 er)∧Turned C gI w h O id p g q own L (l++b::r) R w' H' A' (fun L'=>Agree L L' [a]∧ ∀X o,dO (aN (l++b::r) Q) a=some (X,o)→aJ L' (bg o.P a).1) from ⟨k1.trans (by rw [←her]),by
     exact mK hw z (ah hb1' hb1'.size k2) pQ.symm hA'.symm ⟨(Agree.refl L []).mono (fun x hx=>by cases hx),fun X u hu=>by
      rw [qY] at hu;cases hu;rw [hfe];exact gp⟩⟩)
    have t1:(er !=0)=true:=by rw [←her,bne_iff_ne];exact hv
    clear her;obtain ⟨sp,hsp⟩: ∃sp,b.sp=sp:=⟨_,rfl⟩;obtain ⟨op,hop⟩: ∃op,o.op=op:=⟨_,rfl⟩;obtain ⟨pp,hpp⟩: ∃pp,o.pp=pp:=⟨_,rfl⟩;rw [hop,hpp] at D0;rw [hpp] at PF;rw [hsp,hop] at FI;clear n0 qY pQ hA' hf e0 z hne ha hw pY hfo ho hs gp wR hv hfe hsp hop hpp;go_enter Tryz.func90,Tryz.ntmps90
    go_wp2_with fail
    refine FI.out.mono ?_;rintro e w1 ⟨rfl,hb⟩;have B1:=Lib.hid hb;have d0:=D0.out w1 hb;clear hb;go_wp2_with fail
    refine (PF.out w1 _ B1.out rfl).mono ?_;rintro e w2 ⟨rfl,ht⟩;have T2:=Lib.hid ht;clear ht d0;go_wp2;go_ret;exact ⟨rfl,T2.out⟩
end
end Go.Proofs.YtpibbcnkgdmcbaaGreatDoor
namespace Go.Proofs.YtpibbcnkgdmcbaaGreatDoor
open Go.RowKit aC aF aG aI au aD aB aA
theorem GJ {w:World} {pp p g:Nat} {L P:List Nat} {S:PG} (h:XR w pp p g (OO pp p g) ⟨pp,10,none⟩ L S) (hP:bT L S.cw (S.n:Int)=some P) (hu:P.length≤S.used) (hin: ∀x∈P,bO S.f S.s S.made x∧x∉S.F∧x∉S.G) (hn:P.Nodup):
 Calls Tryz.prog 150 #[.pointer (some ⟨pp,0,none⟩)] w fun e w'=>e= .returned (.tuple #[.int .i64 (P.length:Int), .int .i64 0])∧ ∃L',XR w' pp p g (OO pp p g) ⟨pp,10,none⟩ L' (iB S P)∧Agree L L' P∧aH (OO pp p g) w w':=by
 obtain ⟨h1,h2,h3,h4,-,-⟩:=h;refine (Lx w h1 h2 h3 h4 hP hu).mono fun e w' ⟨k1,k2,k3⟩=>⟨k1, ?_⟩;by_cases EI:P= []
 · subst EI
   rw [if_pos rfl] at k2;exact ⟨L,⟨k2,h2.wrote 0,AB h3 hu,Nat.zero_le _,rfl,rfl⟩,Agree.refl _ _,k3⟩
 · rw [if_neg EI] at k2
   obtain ⟨g1,g2,g3⟩:=h2.ZI (kJ hP).1 EI hin hn;exact ⟨_,⟨k2,g1,AB h3 hu,Nat.zero_le _,rfl,rfl⟩,(Agree.put g3).mono (fun x hx=>by rw [List.mem_singleton.1 hx];exact g2),k3⟩
section
variable {w0 w w':World} {C:fH w0} {h id p g q:Nat} {O own:Nat→Prop} {L L':List Nat} {A A':St} {B R:List SB} {Q:Nat→QR}
theorem yI (hw:Below w0.heap.size w0 w) {a:Nat} (z:Hz C gI w h O id p g q own L A B R Q) (ha:bM a) (hf:dO (aN B Q) a=none):
 Calls Tryz.prog 116 #[.pointer (some ⟨h,0,none⟩), .int .u64 (a:Int)] w fun e w'=>e= .returned (.tuple #[.int .i64 0, .int .i64 5])∧Below w.heap.size w w':=by
 have FI:=Lib.hid (oW hw (Hr.of z) ha);have qY:=wT B Q a;rw [hf] at qY;have VL:jI B a=none:=Option.map_eq_none_iff.1 qY.symm;rw [VL] at FI;change Hid (Calls _ _ _ _ fun e w'=>e= .returned (.tuple #[.pointer none, .pointer none])∧_) at FI;clear z ha hf qY VL hw;go_enter Tryz.func116,Tryz.ntmps116
 go_wp2_with fail
 refine FI.out.mono ?_;rintro e w1 ⟨rfl,hb⟩;have F1:=Lib.hid hb;clear hb;go_wp2
 go_ret2
 exact ⟨rfl,F1.out⟩
theorem Mf (LY:Lay w0) (hw:Below w0.heap.size w0 w) {a:Nat} {X:SG} {o:bY} {P:List Nat} (z:Hz C gI w h O id p g q own L A B R Q) (ha:bM a) (hf:dO (aN B Q) a=some (X,o)) (hP:bT L o.P.cw (o.P.n:Int)=some P) (hu:P.length≤o.P.used) (hin: ∀x∈P,bO o.P.f o.P.s o.P.made x∧x∉o.P.F∧x∉o.P.G) (hnd:P.Nodup):
 Calls Tryz.prog 116 #[.pointer (some ⟨h,0,none⟩), .int .u64 (a:Int)] w fun e w'=>e= .returned (.tuple #[.int .i64 (P.length:Int), .int .i64 0])∧Turned C gI w h O id p g q own L B R w' (jR (aN B Q) A X o P).1 (jR (aN B Q) A X o P).2 fun L'=>Agree L L' P∧aJ L' (iB o.P P):=by
 have n0:=Hn.start (T:=HO p g own O B) hw (Hr.of z) fun k hk=> .inl hk;have FI:=Lib.hid (oW hw (Hr.of z) ha);have qY:=wT B Q a;rw [hf] at qY;obtain ⟨⟨b,o'⟩,VL,e⟩:=Option.map_eq_some_iff.1 qY.symm;cases e;rw [VL] at FI;change Hid (Calls _ _ _ _ fun e w'=>e= .returned (.tuple #[.pointer (some ⟨b.sp,0,none⟩), .pointer (some ⟨o'.op,0,none⟩)])∧_) at FI;change bT L o'.P.cw (o'.P.n:Int)=some P at hP;change P.length≤o'.P.used at hu;change ∀x∈P,bO o'.P.f o'.P.s o'.P.made x∧x∉o'.P.F∧x∉o'.P.G at hin;show Calls _ _ _ _ fun e w'=>_∧Turned C gI w h O id p g q own L B R w' (jR (aN B Q) A b.X o' P).1 (jR (aN B Q) A b.X o' P).2 fun L'=>Agree L L' P∧aJ L' (iB o'.P P);obtain ⟨o,rfl⟩: ∃o,o'=o:=⟨_,rfl⟩;obtain ⟨pY,hfo⟩:=yV VL;have ho:=(gW hfo).1;obtain ⟨l,r,rfl⟩:=List.append_of_mem pY;have hs:=n0.z.sg pY;have gp:=(n0.FV ho).2.1;have wR:b.X∈(aN (l++b::r) Q).B:=List.mem_map.2 ⟨b,pY,rfl⟩;have D0:=Lib.hid (fun w2 (hb2:Below w.heap.size w w2)=>show w2.cell? ⟨o'.op,0,none⟩=some (.pointer (some ⟨o'.pp,0,none⟩)) from ((hs.grew hb2).own o' ho).cell 0);have hT: ∀k,EO p g own (l++b::r) k→HO p g own O (l++b::r) k∨w.heap.size≤k:=fun k hk=> .inl (.inr hk);obtain ⟨S1,hS1⟩: ∃S1,iB o'.P P=S1:=⟨_,rfl⟩;have hsame:S1.f=o'.P.f∧S1.s=o'.P.s∧S1.n=o'.P.n:=by rw [←hS1];exact ⟨rfl,rfl,rfl⟩
 have GA:=Lib.hid (fun w1 (hb1:Below w.heap.size w w1)=>(GJ ((n0.grew hb1).FV ho) hP hu hin hnd).mono fun e w' ⟨k1,L',k2,k3,k4⟩=>show e=Ending.returned (.tuple #[.int .i64 (P.length:Int), .int .i64 0])∧ ∃L',Agree L L' P∧aJ L' S1∧Hn C w (HO p g own O (l++b::r)) w' h O id p g q own L' A (l++eY b o' S1::r) R Q∧w.heap.size≤w'.heap.size from
  ⟨k1,L',k3,by rw [←hS1];exact k2.2.1,(n0.grew hb1).page ho hT (by rw [←hS1];exact k2) k4 k3 (fun y hy=>by
   have hbk:=(hin y hy).1;have hfit:=hbk.fits gp.made (Nat.le_refl _);have Uq:=gp.s16;obtain ⟨i,_,ei⟩:=hbk;omega) hsame,Nat.le_trans hb1.size k4.size⟩)
 obtain ⟨H',pQ⟩: ∃H',(jR (aN (l++b::r) Q) A b.X o' P).1=H':=⟨_,rfl⟩;obtain ⟨A',hA'⟩: ∃A',(jR (aN (l++b::r) Q) A b.X o' P).2=A':=⟨_,rfl⟩;rw [pQ,hA',hS1];have ho1:=mV ho S1;have Ux:aO H':=by rw [←pQ];exact Mq z.good A wR ho P
 have FX: ∀k,BP (eY b o' S1) k∨own k→HO p g own O (l++b::r) k∨w.heap.size≤k:=fun k hk=>by
  rcases hk with hk|hk
  · exact .inl (.inr (.inr (.inr (.inr ⟨b,pY,kX.1 hk⟩))))
  · exact .inl (.inr (.inr (.inr (.inl hk))))
 by_cases EI:P= []
 · have eW:=Jz (S:=S1) (o:=o') (Q:=Q) n0.z.jK
   have gw:aO ((aN (l++b::r) Q).eu (b.X.put o'.pp S1)):=z.good.put wR ho hsame;have eG:jR (aN (l++b::r) Q) A b.X o' P=gK ((aN (l++b::r) Q).eu (b.X.put o'.pp S1)) A (b.X.put o'.pp S1) {o' with P:=S1}:=by unfold jR;rw [if_pos EI,hS1]
   have TD:Hid (∀w3 L',L'.length=L.length→Agree L L' P→aJ L' S1→w.heap.size≤w3.heap.size→Hn C w (HO p g own O (l++b::r)) w3 h O id p g q own L' A (l++eY b o' S1::r) R Q→Calls Tryz.prog 131 #[.pointer (some ⟨h,0,none⟩), .pointer (some ⟨b.sp,0,none⟩), .pointer (some ⟨o'.op,0,none⟩)] w3 fun e w'=>e= .returned (.tuple #[])∧Turned C gI w h O id p g q own L (l++b::r) R w' H' A' fun L'=>Agree L L' P∧aJ L' S1):=Lib.hid fun w3 L' hl hag Mi h3 n3=>by
    have:=xu LY n3 (o:={o' with P:=S1}) (by rw [eW];exact gw) ho1 FX;rw [eW] at this;change Calls _ _ _ _ fun e w'=>_∧vR C w (HO p g own O (l++b::r)) w3 h id p g q own L' (l++eY b o' S1::r) R (gK ((aN (l++b::r) Q).eu (b.X.put o'.pp S1)) A (b.X.put o'.pp S1) {o' with P:=S1}).1 (gK ((aN (l++b::r) Q).eu (b.X.put o'.pp S1)) A (b.X.put o'.pp S1) {o' with P:=S1}).2 w' at this;rw [←eG,pQ,hA'] at this;exact this.mono fun e w' ⟨e1,td⟩=>⟨e1,iJ td (fun k hk=>nN (fun x hx=> .inl (kX.1 hx)) hk) h3 Ux hl ⟨hag,Mi⟩⟩
   obtain ⟨sp,hsp⟩: ∃sp,b.sp=sp:=⟨_,rfl⟩;obtain ⟨op,hop⟩: ∃op,o'.op=op:=⟨_,rfl⟩;obtain ⟨pp,hpp⟩: ∃pp,o'.pp=pp:=⟨_,rfl⟩;rw [hop,hpp] at D0;rw [hpp] at GA;rw [hsp,hop] at TD FI;have HPN:=Lib.hid (show P.length=0 by rw [EI];rfl);obtain ⟨np,hnp⟩: ∃np,P.length=np:=⟨_,rfl⟩;obtain rfl:np=0:=by rw [←hnp];exact HPN.out
   rw [hnp] at GA⊢;clear n0 qY pQ hA' hf VL z ha hw pY hfo ho hs gp wR hT hS1 hsame ho1 hsp hop hpp EI hnp hP hu hin hnd Ux FX eW gw eG;go_enter Tryz.func116,Tryz.ntmps116
   go_wp2_with fail
   refine FI.out.mono ?_;rintro e w1 ⟨rfl,hb⟩;have B1:=Lib.hid hb;have d0:=D0.out w1 hb;clear hb;go_wp2_with fail
   refine (GA.out w1 B1.out).mono ?_;rintro e w2 ⟨rfl,L2,h1,h2,h3,h4⟩;have N2:=Lib.hid h3;have A2:=Lib.hid h1;have G2:=Lib.hid h2;have Z2:=Lib.hid h4;clear h1 h2 h3 h4 d0;go_wp2_with fail
   refine (TD.out _ _ A2.out.1 A2.out G2.out Z2.out N2.out).mono ?_;rintro e w4 ⟨rfl,ht⟩;have T4:=Lib.hid ht;clear ht;go_wp2
   go_ret2
   exact ⟨rfl,T4.out⟩
 · have eW:=Jm (S:=S1) (o:=o') (Q:=Q) n0.z.jK
   have gw:aO (lG (aN (l++b::r) Q) b.X o' S1):=l8 z.good wR ho hsame;have eG:jR (aN (l++b::r) Q) A b.X o' P=gK (lG (aN (l++b::r) Q) b.X o' S1) A (b.X.put o'.pp S1) {o' with P:=S1}:=by unfold jR;rw [if_neg EI,hS1]
   have WK:Hid (∀w2 L',Hn C w (HO p g own O (l++b::r)) w2 h O id p g q own L' A (l++eY b o' S1::r) R Q→Calls Tryz.prog 130 #[.pointer (some ⟨h,0,none⟩), .pointer (some ⟨o'.op,0,none⟩)] w2 fun e w'=>e= .returned (.tuple #[])∧ ∃O',Hn C w (HO p g own O (l++b::r)) w' h O' id p g q own L' A (l++eY b o' S1::r) R (iV Q (qi o'.cls) (dK (Q (qi o'.cls)) (aD.keyOf b.X o')).1)∧w2.heap.size≤w'.heap.size):=Lib.hid fun w2 L' n2=>by
    refine (Df LY (Hn.start (T:=O) n2.b n2.z fun k hk=>hk) (List.mem_append_right _ (List.mem_cons_self ..)) ho1).mono fun e w' ⟨e1,O',n3⟩=>⟨e1,O',n2.then n3,n3.u.size⟩
   have TD:Hid (∀w3 L' O',L'.length=L.length→Agree L L' P→aJ L' S1→w.heap.size≤w3.heap.size→Hn C w (HO p g own O (l++b::r)) w3 h O' id p g q own L' A (l++eY b o' S1::r) R (iV Q (qi o'.cls) (dK (Q (qi o'.cls)) (aD.keyOf b.X o')).1)→Calls Tryz.prog 131 #[.pointer (some ⟨h,0,none⟩), .pointer (some ⟨b.sp,0,none⟩), .pointer (some ⟨o'.op,0,none⟩)] w3 fun e w'=>e= .returned (.tuple #[])∧Turned C gI w h O id p g q own L (l++b::r) R w' H' A' fun L'=>Agree L L' P∧aJ L' S1):=Lib.hid fun w3 L' O' hl hag Mi h3 n3=>by
    have:=xu LY n3 (o:={o' with P:=S1}) (by rw [eW];exact gw) ho1 FX;rw [eW] at this;change Calls _ _ _ _ fun e w'=>_∧vR C w (HO p g own O (l++b::r)) w3 h id p g q own L' (l++eY b o' S1::r) R (gK (lG (aN (l++b::r) Q) b.X o' S1) A (b.X.put o'.pp S1) {o' with P:=S1}).1 (gK (lG (aN (l++b::r) Q) b.X o' S1) A (b.X.put o'.pp S1) {o' with P:=S1}).2 w' at this;rw [←eG,pQ,hA'] at this;exact this.mono fun e w' ⟨e1,td⟩=>⟨e1,iJ td (fun k hk=>nN (fun x hx=> .inl (kX.1 hx)) hk) h3 Ux hl ⟨hag,Mi⟩⟩
   obtain ⟨sp,hsp⟩: ∃sp,b.sp=sp:=⟨_,rfl⟩;obtain ⟨op,hop⟩: ∃op,o'.op=op:=⟨_,rfl⟩;obtain ⟨pp,hpp⟩: ∃pp,o'.pp=pp:=⟨_,rfl⟩;rw [hop,hpp] at D0;rw [hpp] at GA;rw [hop] at WK;rw [hsp,hop] at TD FI;obtain ⟨np,hnp⟩: ∃np,P.length=np:=⟨_,rfl⟩;have abx:0<np:=by rw [←hnp];exact List.length_pos_iff.2 EI
   rw [hnp] at GA⊢;have t1:decide ((np:Int)>0)=true:=decide_eq_true (by omega);have t1':decide (0<np)=true:=decide_eq_true abx;have aa4:decide ((0:Int)<(np:Int))=true:=decide_eq_true (by omega);clear n0 qY pQ hA' hf VL z ha hw pY hfo ho hs gp wR hT hS1 hsame ho1 hsp hop hpp EI hnp hP hu hin hnd Ux FX eW gw eG;go_enter Tryz.func116,Tryz.ntmps116
   go_wp2_with fail
   refine FI.out.mono ?_;rintro e w1 ⟨rfl,hb⟩;have B1:=Lib.hid hb;have d0:=D0.out w1 hb;clear hb;go_wp2_with fail
   refine (GA.out w1 B1.out).mono ?_;rintro e w2 ⟨rfl,L2,h1,h2,h3,h4⟩;have N2:=Lib.hid h3;have A2:=Lib.hid h1;have G2:=Lib.hid h2;have Z2:=Lib.hid h4;clear h1 h2 h3 h4 d0;go_wp2_with fail
   refine (WK.out _ _ N2.out).mono ?_;rintro e w3 ⟨rfl,O3,Qo,hz3⟩;have N3:=Lib.hid Qo;have Z3:=Lib.hid (Nat.le_trans Z2.out hz3);clear Qo hz3;go_wp2_with fail
   refine (TD.out _ _ _ A2.out.1 A2.out G2.out Z3.out N3.out).mono ?_;rintro e w4 ⟨rfl,ht⟩;have T4:=Lib.hid ht;clear ht;go_wp2
   go_ret2
   exact ⟨rfl,T4.out⟩
end
end Go.Proofs.YtpibbcnkgdmcbaaGreatDoor
namespace Go.Proofs.YtpibbcnkgdmcbaaGreatDoor
open Go.RowKit aC aF aG aI au aD aB aA
theorem Ed {S:PG} (h:(aW S).F= []):b_ S= []:=by
 unfold b_;split
 · rename_i hc
   unfold aW at h;rw [if_neg (fun x=>x hc.1),if_neg (fun x=>x hc.2)] at h;exact h
 · rfl
theorem vQ (S:PG):((aP S).2.2=0∧(aP S).1.f=S.f∧(aP S).1.s=S.s∧(aP S).1.n=S.n)∨(aP S=(S,0,4)∧b_ S= []):=by
 cases hF:(aW S).F with
 |nil=>exact .inr ⟨jw hF,Ed hF⟩
 |cons a t=>
  rw [iN hF];refine .inl ⟨rfl, ?_⟩;show (aW S).f=_∧(aW S).s=_∧(aW S).n=_;unfold aW;split
  · exact ⟨rfl,rfl,rfl⟩
  · split<;>exact ⟨rfl,rfl,rfl⟩
theorem M6 {c:Nat} (hc:c<12) {d:Int} (h1: -1≤d) (h2:d≤11) (e:qi d=c):d=(c:Int):=by
 unfold qi at e;split at e<;>omega
section
variable {w0 ws w w':World} {C:fH w0} {h id p g q:Nat} {O own T:Nat→Prop} {L L':List Nat} {A A':St} {B R l r:List SB} {b:SB} {o:bY} {Q:Nat→QR}
theorem Bf (n:Hn C ws T w h O id p g q own L A (l++b::r) R Q) (ho:o∈b.X.L) (hT: ∀k,EO p g own (l++b::r) k→T k∨ws.heap.size≤k):
 Calls Tryz.prog 114 #[.pointer (some ⟨o.pp,0,none⟩)] w fun e w'=>e= .returned (.tuple #[.int .u64 ((aP o.P).2.1:Int), .int .i64 (aP o.P).2.2])∧ ∃L',Agree L L' (b_ o.P)∧Hn C ws T w' h O id p g q own L' A (l++eY b o (aP o.P).1::r) R Q∧aH (OO o.pp p g) w w':=by
 have k:=n.FV ho;refine (D8 w k.1 k.2.1 k.2.2.1).mono fun e w' ⟨k1,L',k2,k3,k4,k5,k6⟩=>⟨k1,L',k5,n.page ho hT ⟨k2,k3,k4,by rw [Bg];exact k.2.2.2.1,rfl,rfl⟩ k6 k5 (xZ k.2.1) ?_,k6⟩;rcases vQ o.P with ⟨_,e⟩|⟨e,_⟩
 · exact e
 · rw [e];exact ⟨rfl,rfl,rfl⟩
def LcR {w0:World} (C:fH w0) (w:World) (h:Nat) (O:Nat→Prop) (id p g q:Nat) (own:Nat→Prop) (L:List Nat) (A:St) (B R:List SB) (Q:Nat→QR) (c:Nat) (v:Value) (i:Value) (wr:World):Prop:=
 ∃(t:Nat) (Q1:Nat→QR) (O1:Nat→Prop) (L1:List Nat),t≤(Q c).R.length∧i= .int .i64 (t:Int)∧Hn C w (HO p g own O B) wr h O1 id p g q own L1 A B R Q1∧aO (aN B Q1)∧Agree L L1 []∧
  eU (c:Int) ((Q c).R.drop t) (aN B Q1)=eU (c:Int) (Q c).R (aN B Q)∧iF wr v (up (Q c)).R∧lD v (fun k=>O1 k∨EO p g own B k) wr
theorem Qj (LY:Lay w0) (hw:Below w0.heap.size w0 w) {c:Int} (z:Hz C gI w h O id p g q own L A B R Q) (hc:dH c):
 Calls Tryz.prog 75 #[.pointer (some ⟨h,0,none⟩), .int .i64 c] w fun e w'=>e= .returned (.tuple #[.int .u64 ((bF (aN B Q) c).2.1:Int), .int .i64 (bF (aN B Q) c).2.2.1])∧Turned C gI w h O id p g q own L B R w' (bF (aN B Q) c).1 A fun L'=>Agree L L' (bF (aN B Q) c).2.2.2:=by
 have IC:=Lib.hid (oL (LY.below hw) hc);obtain ⟨E,hE⟩: ∃E,bF (aN B Q) c=E:=⟨_,rfl⟩;rw [hE];by_cases hin:0≤c∧c<12
 · rw [decide_eq_true hin] at IC
   obtain ⟨cn,rfl⟩:=Int.eq_ofNat_of_zero_le hin.1;have hcn:cn<12:=by omega
   have hqi:qi (cn:Int)=cn:=by unfold qi;rw [if_neg (by omega),Int.toNat_natCast]
   have hEg:eU (cn:Int) (Q cn).R (aN B Q)=E:=by
    rw [←hE];unfold bF;rw [if_neg (by omega)];show _=eU (cn:Int) (Q (qi (cn:Int))).R (aN B Q);rw [hqi]
   have n0:=Hn.start (T:=HO p g own O B) hw (Hr.of z) fun k hk=> .inl hk;have hPg: ∀k∈(Q cn).R,∃b∈B,∃o∈b.X.L,o.cls=(cn:Int)∧k=aD.keyOf b.X o:=fun k hk=>by
    obtain ⟨X,hX,o,ho,h1,h2⟩:=(z.good.mem cn k).1 (dx.2 (.inl hk));obtain ⟨b,hb,rfl⟩:=List.mem_map.1 hX;have hcl:=ze (z.good.seg _ hX).g ho;exact ⟨b,hb,o,ho,M6 hcn hcl.1 hcl.2 h1,h2⟩
   have hkeys:=fun i=>kS z.good i;have OF:=Lib.hid (fun w2 (hb:Below w.heap.size w w2)=>D_ (LY.below (ah hw hw.size hb)) h hcn);obtain ⟨n,hn⟩: ∃n,(Q cn).R.length=n:=⟨_,rfl⟩;have hn1:n≤1024:=by
    have h1:=(hkeys cn).2;change (Q cn).all.length≤1024 at h1;unfold QR.all at h1;rw [List.length_append] at h1;omega
   have HN:=Lib.hid hn;have RD:Hid (∀w2,Below w.heap.size w w2→Calls Tryz.prog 111 #[.pointer (some ⟨h,cn,none⟩)] w2 fun e w'=> ∃a2 c2,e= .returned (.slice a2 n c2)∧n≤c2∧c2≤9223372036854775807∧LcR C w h O id p g q own L A B R Q cn (.slice a2 n c2) (.int .i64 0) w'):=Lib.hid fun w2 hb=>by
    have n2:=n0.grew hb;obtain ⟨rr,OQ,k1,k2,k3,k4⟩:=n2.queue (show cn<13 by omega);have hl0:(up (Q cn)).R.length=n:=by rw [←hn];exact List.length_map _
    have hla:(up (Q cn)).all.length≤many:=by
     have h1:=(hkeys cn).2;change (Q cn).all.length≤1024 at h1;rw [mJ,List.length_map];show _≤1000000;omega
    refine (OZ w2 k1 hla).mono fun e w' ⟨v2,e1,⟨ha,hv⟩,hin,hb3⟩=> ?_;obtain ⟨a2,c2,rfl,hc3,hc4⟩:=ha.out;rw [hl0] at ha hv hin e1 hc3;refine ⟨a2,c2,e1,hc3,hc4,0,Q,O,L,Nat.zero_le _,rfl,n2.grew hb3,z.good,Agree.refl _ _,rfl,ha,lD.new hin (fun k hk=>hv.lt hk) fun k hk=>n2.z.WQ ?_⟩;rcases hk with hk|hk
    · exact .inl hk
    · exact acg (B:=B) (.inr hk)
   have XV:=Lib.hid hPg;have HE:=Lib.hid hEg;have HQI:=Lib.hid hqi;clear z n0 hPg hkeys hEg hE hn hc hqi;go_enter Tryz.func75,Tryz.ntmps75
   go_wp2_with fail
   refine IC.out.mono ?_;rintro e w1 ⟨rfl,hb⟩;have B1:=Lib.hid hb;clear hb;go_wp2_with fail
   refine (OF.out w1 B1.out).mono ?_;rintro e w2 ⟨rfl,hb⟩;have B2:=Lib.hid (ah B1.out B1.out.size hb);clear hb;go_wp2_with fail
   refine (RD.out w2 B2.out).mono ?_;rintro e w3 ⟨a2,c2,rfl,hc3,hc4,hi⟩;have I1:=Lib.hid hi;clear hi RD;go_wp2;go_loopw [27] (fun i wr=>LcR C w h O id p g q own L A B R Q cn (.slice a2 n c2) i wr) (fun i _=>n-(intOf i).toNat)
   case atStart=>exact I1.out
   case round=>
    clear I1;obtain ⟨t,Q1,O1,L1,ht,rfl,hn1',hg1,hag,hgo,har,haw⟩:=hrel;rw [HN.out] at ht;by_cases htn:t<n
    · obtain ⟨bk,off,y,ea,hy,hym,qK,d0⟩:=har.at (t:=t) (by rw [show (up (Q cn)).R.length=(Q cn).R.length from List.length_map _,HN.out];exact htn)
      subst ea;obtain ⟨k,hk⟩: ∃k,(Q cn).R[t]? =some k:=⟨_,List.getElem?_eq_getElem (by rw [HN.out];exact htn)⟩;obtain ⟨b,pY,o,ho,hcl,hkey⟩:=XV.out k (List.mem_of_getElem? hk);obtain ⟨l,r,rfl⟩:=List.append_of_mem pY;have hy2:y=aD.keyOf b.X o*1024:=by
       change ((Q cn).R.map fun k=>k*1024)[t]? =some y at hy;rw [List.getElem?_map,hk] at hy;injection hy with hy
       rw [←hkey];exact hy.symm
      subst hy2;have hs:=hn1'.z.sg pY;have wR:b.X∈(aN (l++b::r) Q1).B:=List.mem_map.2 ⟨b,pY,rfl⟩;have VY:=Lib.hid (Pt LY hn1' pY ho);rw [hcl] at VY;have D0:=Lib.hid (fun w2 (hb2:Below wr.heap.size wr w2)=>show w2.cell? ⟨o.op,0,none⟩=some (.pointer (some ⟨o.pp,0,none⟩)) from ((hs.grew hb2).own o ho).cell 0);have hT: ∀k,EO p g own (l++b::r) k→HO p g own O (l++b::r) k∨w.heap.size≤k:=fun k hk=> .inl (.inr hk);have AL:=Lib.hid (fun w2 (hb2:Below wr.heap.size wr w2)=>Bf (hn1'.grew hb2) ho hT);have hdrop:(Q cn).R.drop t=k::(Q cn).R.drop (t+1):=List.drop_eq_getElem?_toList_append.trans (by rw [hk];rfl);have hfk:dO (aN (l++b::r) Q1) (k.toNat*1024)=some (b.X,o):=by rw [hkey];exact AU hg1 wR ho
      obtain ⟨fr,hfr⟩: ∃fr,aD.keyOf b.X o*1024=fr:=⟨_,rfl⟩;have t2:decide ((t:Int)<(n:Int))=true:=decide_eq_true (by omega);have t2':decide (t<n)=true:=decide_eq_true htn;have q3:(0:Int)≤(t:Int):=by omega
      have q4:(t:Int)<(n:Int):=by omega
      rcases vQ o.P with ⟨ha0,hsame⟩|⟨ZE,hnw⟩
      · have yL:eU (cn:Int) ((Q cn).R.drop t) (aN (l++b::r) Q1)=((aN (l++b::r) Q1).eu (b.X.put o.pp (aP o.P).1),(aP o.P).2.1,0,b_ o.P):=by
         rw [hdrop,eU,hfk];simp only [];rw [if_pos ha0]
        rw [hgo,HE.out] at yL;have FIN:Hid (∀w4 L4,Agree L1 L4 (b_ o.P)→Hn C w (HO p g own O (l++b::r)) w4 h O1 id p g q own L4 A (l++eY b o (aP o.P).1::r) R Q1→Turned C gI w h O id p g q own L (l++b::r) R w4 E.1 A fun L'=>Agree L L' E.2.2.2):=Lib.hid fun w4 L4 h4 n4=>by
         have hagg:=hag.trans h4;rw [List.nil_append] at hagg;rw [yL];refine iJ (w1:=w) (td:=⟨O1,own,_,n4, ?_,fun k hk=> .inl hk⟩) (fun k hk=>nN (fun x hx=> .inl (kX.1 hx)) hk) (Nat.le_refl _) ?_ hagg.1 hagg
         · exact congrArg HS.B (Jz (S:=(aP o.P).1) (o:=o) (Q:=Q1) hn1'.z.jK)
         · exact hg1.put wR ho hsame
        have hv1:E.2.1=(aP o.P).2.1∧E.2.2.1=0:=by rw [yL];exact ⟨rfl,rfl⟩
        obtain ⟨x,hx⟩: ∃x,(aP o.P).2.1=x:=⟨_,rfl⟩;obtain ⟨S2,hS2⟩: ∃S2,(aP o.P).1=S2:=⟨_,rfl⟩;rw [ha0,hx,hS2] at AL;rw [hS2] at FIN;rw [hx] at hv1;have HV:=Lib.hid hv1;obtain ⟨op,hop⟩: ∃op,o.op=op:=⟨_,rfl⟩;obtain ⟨pp,hpp⟩: ∃pp,o.pp=pp:=⟨_,rfl⟩;rw [hop,hpp] at D0;rw [hop,hfr] at VY;rw [hpp] at AL;rw [hfr] at d0;clear hn1' hg1 hag hgo har haw hy hym qK hk ho hcl hkey pY hs wR hT hdrop hfk ha0 hsame yL hv1 hx hS2 hop hpp hfr XV;go_wp2_with fail
        refine VY.out.mono ?_;rintro e w4 ⟨rfl,hb⟩;have B4:=Lib.hid hb;have d1:=D0.out w4 hb;clear hb;go_wp2_with fail
        refine (AL.out w4 B4.out).mono ?_;rintro e w5 ⟨rfl,L5,h5,Zn,_⟩;have F5:=Lib.hid (FIN.out w5 L5 h5 Zn);clear h5 Zn d1;go_wp2
        go_ret2
        rw [HV.out.1,HV.out.2];exact ⟨rfl,F5.out⟩
      · have Md:cn<13:=by omega
        have hb1:eY b o (aP o.P).1=b:=by
         rw [ZE];unfold eY;rw [DI hs.pps ho]
        have hse:aN (l++b::r) (iV Q1 cn (eO (Q1 cn) k).1)=(aN (l++b::r) Q1).mQ (cn:Int) (eO ((aN (l++b::r) Q1).Q (qi (cn:Int))) k).1:=by
         unfold HS.mQ iV aN;rw [HQI.out]
        have yL:eU (cn:Int) ((Q cn).R.drop t) (aN (l++b::r) Q1)=eU (cn:Int) ((Q cn).R.drop (t+1)) (aN (l++b::r) (iV Q1 cn (eO (Q1 cn) k).1)):=by
         rw [hse,hdrop,eU,hfk];simp only [];rw [if_neg (by rw [ZE];show ¬(4:Int)=0;decide)]
        have hg2:aO (aN (l++b::r) (iV Q1 cn (eO (Q1 cn) k).1)):=by rw [hse];exact hg1.fill (cn:Int) k
        rw [ZE] at AL;have AL':Hid (∀w2,Below wr.heap.size wr w2→Calls Tryz.prog 114 #[.pointer (some ⟨o.pp,0,none⟩)] w2 fun e w'=>e= .returned (.tuple #[.int .u64 0, .int .i64 4])∧ ∃L4,Agree L1 L4 []∧Hn C w (HO p g own O (l++b::r)) w' h O1 id p g q own L4 A (l++b::r) R Q1∧iF w' (.slice (some ⟨bk,off,none⟩) n c2) (up (Q cn)).R∧lD (.slice (some ⟨bk,off,none⟩) n c2) (fun k=>O1 k∨EO p g own (l++b::r) k) w'):=Lib.hid fun w2 hb2=>by
         refine (AL.out w2 hb2).mono fun e w' ⟨e1,L4,k1,k2,k3⟩=>⟨e1,L4,by rw [←hnw];exact k1, ?_,(har.grew hb2).upd k3 fun x hx hoo=>(haw x hx).1 (.inr ?_),fun x hx=>⟨(haw x hx).1,Nat.lt_of_lt_of_le (haw x hx).2 (Nat.le_trans hb2.size k3.size)⟩⟩
         · rw [ZE] at hb1
           have h9:eY b o o.P=b:=hb1;rw [show eY b o (o.P,0,(4:Int)).1=b from h9] at k2;exact k2
         · rcases hoo with e|e|e
           · exact .inr (.inr (.inr ⟨b,pY, .inr ⟨o,ho, .inr e⟩⟩))
           · exact .inl e
           · exact .inr (.inl e)
        have FL:Hid (∀w5 L4,Agree L1 L4 []→Hn C w (HO p g own O (l++b::r)) w5 h O1 id p g q own L4 A (l++b::r) R Q1→iF w5 (.slice (some ⟨bk,off,none⟩) n c2) (up (Q cn)).R→lD (.slice (some ⟨bk,off,none⟩) n c2) (fun k=>O1 k∨EO p g own (l++b::r) k) w5→Calls Tryz.prog 115 #[.pointer (some ⟨h,cn,none⟩), .int .i64 fr] w5 fun e w'=>(∃x:Int,e= .returned (.int .i64 x))∧LcR C w h O id p g q own L A (l++b::r) R Q cn (.slice (some ⟨bk,off,none⟩) n c2) (.int .i64 ((t+1:Nat):Int)) w'):=Lib.hid fun w5 L4 h4 n5 ha5 VG=>by
         obtain ⟨rr,OQ,k1,k2,k3,k4⟩:=n5.queue Md;have abD:gy fr:=by
          have:=oK ⟨hs.good,hs.pl,hs.pps⟩ ho;rw [←hfr];exact ⟨by omega,by omega⟩
         refine (TA w5 k1 abD).mono fun e w' kk=> ?_;obtain ⟨e1,e2⟩:=tH.of (fun k=> .inl) (dA.refl _ _ w5) kk;rw [←hfr,←hkey,Sl] at e2;obtain ⟨O',n',kO,kU⟩:=k4 w' _ e2;have hagg:=hag.trans h4;refine ⟨⟨_,e1⟩,t+1,_,O',L4,by rw [HN.out];exact htn,rfl,n',hg2,hagg,by rw [←yL];exact hgo,ha5.upd kU fun x hx h9=>(VG x hx).1 (.inl h9),fun x hx=>⟨fun h9=> ?_,Nat.lt_of_lt_of_le (VG x hx).2 kU.size⟩⟩;rcases h9 with h9|h9
         · rcases kO x h9 with h9|h9
           · exact (VG x hx).1 (.inl h9)
           · have:=(VG x hx).2;omega
         · exact (VG x hx).1 (.inr h9)
        rw [show ((t+1:Nat):Int)=(t:Int)+1 by omega] at FL;obtain ⟨op,hop⟩: ∃op,o.op=op:=⟨_,rfl⟩;obtain ⟨pp,hpp⟩: ∃pp,o.pp=pp:=⟨_,rfl⟩;rw [hop,hpp] at D0;rw [hop,hfr] at VY;rw [hpp] at AL';rw [hfr] at d0;clear AL hn1' hg1 hag hgo har haw hy hym qK hk ho hcl hkey pY hs wR hT hdrop hfk ZE hnw yL hop hpp hfr XV hb1 hse hg2;go_wp2_with fail
        refine VY.out.mono ?_;rintro e w4 ⟨rfl,hb⟩;have B4:=Lib.hid hb;have d1:=D0.out w4 hb;clear hb;go_wp2_with fail
        refine (AL'.out w4 B4.out).mono ?_;rintro e w5 ⟨rfl,L5,h5,Zn,ha5,VG⟩;have K5:=Lib.hid (FL.out w5 L5 h5 Zn ha5 VG);clear h5 Zn ha5 VG d1;go_wp2_with fail
        refine K5.out.mono ?_;rintro e w6 ⟨⟨x6,rfl⟩,hnx⟩;have NX:=Lib.hid hnx;clear hnx;go_wp2;go_roundw
        case rel=>exact NX.out
        case measure=>simp [intOf];omega
    · obtain rfl:t=n:=by omega
      have t2:decide ((t:Int)<(t:Int))=false:=decide_eq_false (by omega);have e9:(Q cn).R.drop t= []:=List.drop_eq_nil_of_le (by rw [HN.out];exact Nat.le_refl _);rw [e9,HE.out] at hgo;have yL:E=(aN B Q1,0,4, []):=hgo.symm.trans rfl;have FIN:Hid (Turned C gI w h O id p g q own L B R wr E.1 A fun L'=>Agree L L' E.2.2.2):=Lib.hid (by
       rw [yL];exact iJ (w1:=w) (td:=⟨O1,own,B,hn1',rfl,fun k hk=> .inl hk⟩) (fun k hk=> .inl hk) (Nat.le_refl _) hg1 hag.1 hag)
      have hv1:E.2.1=0∧E.2.2.1=4:=by rw [yL];exact ⟨rfl,rfl⟩
      have HV:=Lib.hid hv1;clear hn1' hg1 hag hgo har haw yL hv1 e9;go_wp2
      go_ret2
      rw [HV.out.1,HV.out.2];exact ⟨rfl,FIN.out⟩
 · rw [decide_eq_false hin] at IC
   have hE2:E=(aN B Q,0,2, []):=by
    rw [←hE];unfold bF;rw [if_pos (by omega)]
   have FIN:Hid (∀w2,Below w.heap.size w w2→Turned C gI w h O id p g q own L B R w2 E.1 A fun L'=>Agree L L' E.2.2.2):=Lib.hid fun w2 hb=>by
    rw [hE2];exact mK hw z hb rfl rfl (Agree.refl _ _)
   have hv1:E.2.1=0∧E.2.2.1=2:=by rw [hE2];exact ⟨rfl,rfl⟩
   rw [hv1.1,hv1.2];clear z hE hE2 hv1 hin hc;go_enter Tryz.func75,Tryz.ntmps75
   go_wp2_with fail
   refine IC.out.mono ?_;rintro e w1 ⟨rfl,hb⟩;have F1:=Lib.hid (FIN.out w1 hb);clear hb;go_wp2
   go_ret2
   exact ⟨rfl,F1.out⟩
end
end Go.Proofs.YtpibbcnkgdmcbaaGreatDoor
namespace Go.Proofs.YtpibbcnkgdmcbaaGreatDoor
open Go.RowKit aC aF aG aI au aD aB aA
abbrev JI (c sl sg:Int) (us:Nat):Value:= .agg #[.int .i64 c, .int .i64 sl, .int .i64 sg, .int .u64 (us:Int)]
theorem pV {sl:Int}: ¬eX (-1) sl↔1≤sl∧sl≤15:=by unfold eX;omega
theorem Ba {c sl:Int} (h:c≠ -1): ¬eX c sl↔0≤c∧c<12:=by unfold eX;omega
theorem PZ {w:World} (LY:Lay w) {c sl sg:Int} {us:Nat} (hc:dH c) (hs:dH sl):
 Calls Tryz.prog 117 #[JI c sl sg us] w fun e w'=>e= .returned (.bool (decide (¬eX c sl)))∧Below w.heap.size w w':=by
 obtain ⟨E,hE⟩: ∃E,decide (¬eX c sl)=E:=⟨_,rfl⟩;rw [hE];obtain ⟨W1,hW1⟩: ∃W1,w.alloc (.cells #[.int .i64 c, .int .i64 sl, .int .i64 sg, .int .u64 (us:Int)] 38)=W1:=⟨_,rfl⟩;obtain ⟨bp,hbp⟩: ∃bp,w.heap.size=bp:=⟨_,rfl⟩;have hb1:Below w.heap.size w W1:=by rw [←hW1];exact (Below.refl _ _).alloc (Nat.le_refl _) _
 have bB:aV W1 bp 38 #[.int .i64 c, .int .i64 sl, .int .i64 sg, .int .u64 (us:Int)]:=by rw [←hW1,←hbp];exact aV.new w _ _
 have c0:W1.cell? ⟨bp,0,none⟩=some (.int .i64 c):=bB.cell 0;have c1:W1.cell? ⟨bp,1,none⟩=some (.int .i64 sl):=bB.cell 1;have BB:=Lib.hid hb1;by_cases h1:c= -1
 · subst h1
   have t1:((-1:Int)== -1)=true:=by decide
   by_cases h2:1≤sl
   · have t2:decide (sl≥1)=true:=decide_eq_true h2
     have t2':decide (1≤sl)=true:=decide_eq_true h2;by_cases h3:sl≤15
     · have t3:decide (sl≤15)=true:=decide_eq_true h3
       obtain rfl:E=true:=by rw [←hE];exact decide_eq_true (pV.2 ⟨h2,h3⟩)
       clear LY hE hb1 bB hc hs;go_enter Tryz.func117,Tryz.ntmps117
       go_wp2;go_ret;first|exact ⟨rfl,BB.out⟩|(rw [hbp] at BB;exact ⟨rfl,BB.out⟩)
     · have t3:decide (sl≤15)=false:=decide_eq_false h3
       obtain rfl:E=false:=by rw [←hE];exact decide_eq_false fun x=>h3 (pV.1 x).2
       clear LY hE hb1 bB hc hs;go_enter Tryz.func117,Tryz.ntmps117
       go_wp2;go_ret;first|exact ⟨rfl,BB.out⟩|(rw [hbp] at BB;exact ⟨rfl,BB.out⟩)
   · have t2:decide (sl≥1)=false:=decide_eq_false h2
     have t2':decide (1≤sl)=false:=decide_eq_false h2;obtain rfl:E=false:=by rw [←hE];exact decide_eq_false fun x=>h2 (pV.1 x).1
     clear LY hE hb1 bB hc hs;go_enter Tryz.func117,Tryz.ntmps117
     go_wp2;go_ret;first|exact ⟨rfl,BB.out⟩|(rw [hbp] at BB;exact ⟨rfl,BB.out⟩)
 · have t1:(c== -1)=false:=by rw [beq_eq_false_iff_ne];exact h1
   have IC:=Lib.hid (oL (LY.below hb1) hc);have eE:decide (0≤c∧c<12)=E:=by rw [←hE];exact decide_eq_decide.2 (Ba h1).symm
   rw [eE] at IC;clear LY hE hb1 bB hc hs eE h1;go_enter Tryz.func117,Tryz.ntmps117
   go_wp2_with fail
   refine IC.out.mono ?_;rintro e w2 ⟨rfl,hb⟩;have B2:=Lib.hid (ah BB.out (by have:=BB.out.size;omega) hb);clear hb c0 c1;go_wp2;go_ret;first|exact ⟨rfl,B2.out⟩|(rw [hbp] at B2;exact ⟨rfl,B2.out⟩)
def pW {w0:World} (C:fH w0) (w:World) (sp p g:Nat) (I:Nat→Prop) (k:Addr) (L:List Nat) (X:SG) (c sl:Int) (e:Ending) (w':World):Prop:=
 match aj.low X.K (dZ c sl.toNat) with
 |none=>e= .returned (.tuple #[.pointer none, .int .i64 4])∧Below w.heap.size w w'
 |some a=> ∃op pp I',e= .returned (.tuple #[.pointer (some ⟨op,0,none⟩), .int .i64 0])∧Sg C.Int' w' sp p g I' k L (X.add op pp c a (dZ c sl.toNat) (h_ c) (bQ c sl.toNat))∧w.heap.size≤op∧w.heap.size≤pp∧(∀b,I' b→I b∨w.heap.size≤b)∧aH I w w'
theorem QO {w0 w:World} {C:fH w0} (hw:Below w0.heap.size w0 w) {sp p g:Nat} {I:Nat→Prop} {k:Addr} {L:List Nat} {X:SG} (h:Sg C.Int' w sp p g I k L X) {c sl sg:Int} {us:Nat} (hb: ¬eX c sl):
 Calls Tryz.prog 118 #[.pointer (some ⟨sp,0,none⟩),JI c sl sg us] w (pW C w sp p g I k L X c sl):=by
 obtain ⟨W1,hW1⟩: ∃W1,w.alloc (.cells #[.int .i64 c, .int .i64 sl, .int .i64 sg, .int .u64 (us:Int)] 38)=W1:=⟨_,rfl⟩;obtain ⟨bp,hbp⟩: ∃bp,w.heap.size=bp:=⟨_,rfl⟩;have hb1:Below w.heap.size w W1:=by rw [←hW1];exact (Below.refl _ _).alloc (Nat.le_refl _) _
 have bB:aV W1 bp 38 #[.int .i64 c, .int .i64 sl, .int .i64 sg, .int .u64 (us:Int)]:=by rw [←hW1,←hbp];exact aV.new w _ _
 have c0:W1.cell? ⟨bp,0,none⟩=some (.int .i64 c):=bB.cell 0;have c1:W1.cell? ⟨bp,1,none⟩=some (.int .i64 sl):=bB.cell 1;have h1:=h.grew hb1;have hw1:=ah hw hw.size hb1;by_cases hc:c= -1
 · subst hc
   obtain ⟨s1,s2⟩:=pV.1 hb;obtain ⟨s,rfl⟩:=Int.eq_ofNat_of_zero_le (show 0≤sl by omega);have t1:((-1:Int)== -1)=true:=by decide
   have CT:Hid (Calls Tryz.prog 151 #[.pointer (some ⟨sp,0,none⟩), .int .i64 (s:Int)] W1 fun e w'=>(∃x y,e= .returned (.tuple #[x, .int .i64 y]))∧pW C w sp p g I k L X (-1) (s:Int) e w'):=Lib.hid (by
    unfold pW;have e1:dZ (-1) (s:Int).toNat=s:=by unfold dZ;rw [if_pos (by decide),Int.toNat_natCast]
    have e2:h_ (-1)=1:=rfl;have e3:bQ (-1) (s:Int).toNat=s*1024:=by unfold bQ;rw [if_pos (by decide),Int.toNat_natCast]
    rw [e1,e2,e3];cases hl:aj.low X.K s with
    |none=>exact (C.Fq W1 hw1 h1 (by omega) (by omega) hl).mono fun e w' ⟨k1,k2⟩=>⟨⟨_,_,k1⟩,k1,ah hb1 hb1.size k2⟩
    |some a=>exact (C.big W1 hw1 h1 (by omega) (by omega) hl).mono fun e w' ⟨op,pp,I',k1,k2,k3,k4,k5,k6⟩=>⟨⟨_,_,k1⟩,op,pp,I',k1,k2,Nat.le_trans hb1.size k3,Nat.le_trans hb1.size k4,fun b hb=>(k5 b hb).imp (fun x=>x) fun x=>Nat.le_trans hb1.size x,((ak hb1).mono fun _ x=>x.elim).trans k6⟩)
   clear h hw h1 hw1 bB hb1 hb s1 s2;go_enter Tryz.func118,Tryz.ntmps118
   go_wp2_with fail
   refine CT.out.mono ?_;rintro e w2 ⟨⟨x,y,rfl⟩,hk⟩;have K:=Lib.hid hk;clear hk;go_wp2
   go_ret2
   exact K.out
 · obtain ⟨s1,s2⟩:=(Ba hc).1 hb
   obtain ⟨n,rfl⟩:=Int.eq_ofNat_of_zero_le s1;have t1:((n:Int)== -1)=false:=by rw [beq_eq_false_iff_ne];omega
   have CT:Hid (Calls Tryz.prog 152 #[.pointer (some ⟨sp,0,none⟩), .int .i64 (n:Int)] W1 fun e w'=>(∃x y,e= .returned (.tuple #[x, .int .i64 y]))∧pW C w sp p g I k L X (n:Int) sl e w'):=Lib.hid (by
    unfold pW;have e1:dZ (n:Int) sl.toNat=aM n:=by unfold dZ;rw [if_neg (by omega),Int.toNat_natCast]
    have e2:h_ (n:Int)=bE n:=by unfold h_;rw [if_neg (by omega),Int.toNat_natCast]
    have e3:bQ (n:Int) sl.toNat=aK n:=by unfold bQ;rw [if_neg (by omega),Int.toNat_natCast]
    rw [e1,e2,e3];cases hl:aj.low X.K (aM n) with
    |none=>exact (C.Ag W1 hw1 h1 (by omega) hl).mono fun e w' ⟨k1,k2⟩=>⟨⟨_,_,k1⟩,k1,ah hb1 hb1.size k2⟩
    |some a=>exact (C.page W1 hw1 h1 (by omega) hl).mono fun e w' ⟨op,pp,I',k1,k2,k3,k4,k5,k6⟩=>⟨⟨_,_,k1⟩,op,pp,I',k1,k2,Nat.le_trans hb1.size k3,Nat.le_trans hb1.size k4,fun b hb=>(k5 b hb).imp (fun x=>x) fun x=>Nat.le_trans hb1.size x,((ak hb1).mono fun _ x=>x.elim).trans k6⟩)
   clear h hw h1 hw1 bB hb1 hb s1 s2 hc;go_enter Tryz.func118,Tryz.ntmps118
   go_wp2_with fail
   refine CT.out.mono ?_;rintro e w2 ⟨⟨x,y,rfl⟩,hk⟩;have K:=Lib.hid hk;clear hk;go_wp2
   go_ret2
   exact K.out
section
variable {w0 ws w w':World} {C:fH w0} {h id p g q:Nat} {O own T:Nat→Prop} {L L':List Nat} {A A':St} {B R l r:List SB} {b:SB} {o:bY} {Q:Nat→QR}
theorem DJ (n:Hn C ws T w h O id p g q own L A B R Q) (hb:b∈B) (ho:o∈b.X.L) (hlen: ∀i,i<13→(Q i).all.length≤2000):
 Calls Tryz.prog 119 #[.pointer (some ⟨h,qi o.cls,none⟩), .pointer (some ⟨o.op,0,none⟩)] w fun e w'=>e= .returned (.tuple #[])∧ ∃O',Hn C ws T w' h O' id p g q own L A B R (iV Q (qi o.cls) (jD (Q (qi o.cls)) (aD.keyOf b.X o)))∧(∀k,O' k→O k∨w.heap.size≤k)∧aH O w w':=by
 have hs:=n.z.sg hb;have hc:=ze hs.good ho;have hq:=Jy hc.1 hc.2;obtain ⟨rr,OQ,k1,k2,k3,k4⟩:=n.queue hq;refine (TB k1 (hlen _ hq) (oK ⟨hs.good,hs.pl,hs.pps⟩ ho) fun w' u=>rR (n.side k2 k3 u hb) ho).mono fun e w' ⟨e1,e2⟩=>⟨e1,k4 w' _ e2⟩
theorem Gq {wd t a:Nat} {b:SB} (hall: ∀x∈B.take t,aj.low x.X.K wd=none) (hb:B[t]? =some b) (ha:aj.low b.X.K wd=some a):iX (aN B Q) wd=some (b.X,a):=by
 unfold iX aN;show (B.map fun b=>b.X).findSome? _=_;rw [xE hb,List.map_append,List.map_cons,List.findSome?_append];rw [List.findSome?_eq_none_iff.2 fun x hx=>by
  obtain ⟨y,hy,rfl⟩:=List.mem_map.1 hx;rw [hall y hy];rfl]
 rw [List.findSome?_cons,ha];rfl
theorem Gs {wd:Nat} (hall: ∀x∈B,aj.low x.X.K wd=none):iX (aN B Q) wd=none:=List.findSome?_eq_none_iff.2 fun x hx=>by
 obtain ⟨y,hy,rfl⟩:=List.mem_map.1 hx;rw [hall y hy];rfl
theorem Cb (LY:Lay w0) (hw:Below w0.heap.size w0 w) {c sl sg:Int} {us:Nat} (hc:dH c) (hs:dH sl) (hb:eX c sl):
 Calls Tryz.prog 78 #[.pointer (some ⟨h,0,none⟩),JI c sl sg us] w fun e w'=>e= .returned (.tuple #[.int .u64 0, .int .i64 2])∧Below w.heap.size w w':=by
 obtain ⟨W1,hW1⟩: ∃W1,w.alloc (.cells #[.int .i64 c, .int .i64 sl, .int .i64 sg, .int .u64 (us:Int)] 38)=W1:=⟨_,rfl⟩;obtain ⟨bp,hbp⟩: ∃bp,w.heap.size=bp:=⟨_,rfl⟩;have hb1:Below w.heap.size w W1:=by rw [←hW1];exact (Below.refl _ _).alloc (Nat.le_refl _) _
 have bB:aV W1 bp 38 #[.int .i64 c, .int .i64 sl, .int .i64 sg, .int .u64 (us:Int)]:=by rw [←hW1,←hbp];exact aV.new w _ _
 have c0:W1.cell? ⟨bp,0,none⟩=some (.int .i64 c):=bB.cell 0;have c1:W1.cell? ⟨bp,1,none⟩=some (.int .i64 sl):=bB.cell 1;have c2:W1.cell? ⟨bp,2,none⟩=some (.int .i64 sg):=bB.cell 2;have c3:W1.cell? ⟨bp,3,none⟩=some (.int .u64 (us:Int)):=bB.cell 3;have MB:=Lib.hid (PZ (sg:=sg) (us:=us) (LY.below (ah hw hw.size hb1)) hc hs);rw [decide_eq_false (show ¬ ¬eX c sl from fun x=>x hb)] at MB;have BB:=Lib.hid (fun w2 (h:Below W1.heap.size W1 w2)=>ah hb1 hb1.size h);clear LY hw hb1 bB hc hs hb;go_enter Tryz.func78,Tryz.ntmps78
 go_wp2_with fail
 refine MB.out.mono ?_;rintro e w2 ⟨rfl,hb⟩;have B2:=Lib.hid (BB.out w2 hb);clear hb c0 c1 c2 c3;go_wp2
 go_ret2
 first|exact ⟨rfl,B2.out⟩|(rw [hbp] at B2;exact ⟨rfl,B2.out⟩)
def qX {w0:World} (C:fH w0) (w:World) (h:Nat) (O:Nat→Prop) (id p g q:Nat) (own:Nat→Prop) (L:List Nat) (A:St) (B R:List SB) (Q:Nat→QR) (c sl:Int) (e:Ending) (w':World):Prop:=
 match iX (aN B Q) (dZ c sl.toNat) with
 |none=>e= .returned (.tuple #[.int .u64 0, .int .i64 4])∧Below w.heap.size w w'
 |some (X,a)=> ∃op pp,e= .returned (.tuple #[.int .u64 (aL X.pl a:Int), .int .i64 0])∧w.heap.size≤op∧w.heap.size≤pp∧Turned C gI w h O id p g q own L B R w' (jM (aN B Q) X op pp c sl.toNat a) A fun L'=>Agree L L' (b_ (bR (aL X.pl a) (bQ c sl.toNat) (h_ c)))
end
end Go.Proofs.YtpibbcnkgdmcbaaGreatDoor
namespace Go.Proofs.YtpibbcnkgdmcbaaGreatDoor
open Go.RowKit aC aF aG aI au aD aB aA
section
variable {w0 ws w w':World} {C:fH w0} {h id p g q:Nat} {O own T:Nat→Prop} {L L':List Nat} {A A':St} {B R l r:List SB} {b:SB} {o:bY} {Q:Nat→QR}
abbrev qm (b:SB) (I':Nat→Prop) (op pp:Nat) (c:Int) (a wd n s:Nat):SB:={b with I:=I',X:=b.X.add op pp c a wd n s}
theorem Vt {I':Nat→Prop} {op pp a wd n s nb x:Nat} {c:Int} (hI: ∀k,I' k→b.I k∨nb≤k) (h1:nb≤op) (h2:nb≤pp) (hx:BP (qm b I' op pp c a wd n s) x):BP b x∨nb≤x:=by
 rcases hx with hx|⟨u,hu,hx⟩
 · exact (hI x hx).imp .inl fun x=>x
 · rcases fZ.1 (show u∈ni b.X.L _ from hu) with rfl|⟨hu,_⟩
   · right
     rcases hx with rfl|rfl
     · exact h1
     · exact h2
   · exact .inl (.inr ⟨u,hu,hx⟩)
theorem Ii (LY:Lay w0) {wr w5:World} {c sl:Int} {a wd op pp:Nat} {I':Nat→Prop} (nr:Hn C w (HO p g own O (l++b::r)) wr h O id p g q own L A (l++b::r) R Q) (gd:aO (aN (l++b::r) Q)) (hb: ¬eX c sl) (hwd:dZ c sl.toNat=wd) (hrm:iX (aN (l++b::r) Q) wd=some (b.X,a)) (h1:w.heap.size≤wr.heap.size)
 (h5:Sg C.Int' w5 b.sp p g I' b.c L (b.X.add op pp c a wd (h_ c) (bQ c sl.toNat))) (ho:wr.heap.size≤op) (hpp:wr.heap.size≤pp) (hI: ∀k,I' k→b.I k∨wr.heap.size≤k) (u5:aH b.I wr w5):
 (∀w9,Below w5.heap.size w5 w9→Calls Tryz.prog 100 #[.pointer (some ⟨h,0,none⟩), .int .i64 c] w9 fun e w'=>e= .returned (.pointer (some ⟨h,qi c,none⟩))∧Below w5.heap.size w5 w')∧
 (∀w9,Below w5.heap.size w5 w9→w9.cell? ⟨op,1,none⟩=some (.int .i64 c))∧
 ∀w9,Below w5.heap.size w5 w9→Calls Tryz.prog 119 #[.pointer (some ⟨h,qi c,none⟩), .pointer (some ⟨op,0,none⟩)] w9 fun e w'=>e= .returned (.tuple #[])∧(w'.cell? ⟨op,0,none⟩=some (.pointer (some ⟨pp,0,none⟩))∧w'.cell? ⟨op,1,none⟩=some (.int .i64 c))∧
  Calls Tryz.prog 114 #[.pointer (some ⟨pp,0,none⟩)] w' fun e2 w2=>e2= .returned (.tuple #[.int .u64 (aL b.X.pl a:Int), .int .i64 0])∧qX C w h O id p g q own L A (l++b::r) R Q c sl e2 w2:=by
 have jL:b∈l++b::r:=List.mem_append_right _ (List.mem_cons_self ..);have wR:b.X∈(aN (l++b::r) Q).B:=List.mem_map.2 ⟨b,jL,rfl⟩;have hb': ¬eX c (sl.toNat:Int):=by unfold eX at hb⊢;omega
 have hl:=(qD hrm).2;obtain ⟨p1,p2,p3,p4⟩:=planned hb';rw [hwd] at p1 p2 p4;have hlow:=aj.jc p1 hl;have hp: ∀o∈b.X.L,o.pp≠pp:=fun o ho2 e=>by
  have:=((nr.z.sg jL).pg o ho2).1.lt;omega
 have hadd:=gd.add wR p1 hlow.1 (p4 op pp a (aL b.X.pl a)) hp;have hcr: -1≤c∧c≤11:=by unfold eX at hb;omega
 have hbp:=fun x hx=>Vt (b:=b) (op:=op) (pp:=pp) (c:=c) (a:=a) (wd:=wd) (n:=h_ c) (s:=bQ c sl.toNat) (x:=x) hI ho hpp hx;have n5:Hn C w (HO p g own O (l++b::r)) w5 h O id p g q own L A (l++qm b I' op pp c a wd (h_ c) (bQ c sl.toNat)::r) R Q:=
  nr.seg (b':=qm b I' op pp c a wd (h_ c) (bQ c sl.toNat)) (Y:= []) h5 rfl rfl u5 (fun x hx=> .inl (.inl hx)) (Agree.refl _ _) (fun y hy=>by cases hy) hbp fun x hx=> .inl (.inr (.inr (.inr (.inr ⟨b,jL, .inl hx⟩))))
 have Xn:qm b I' op pp c a wd (h_ c) (bQ c sl.toNat)∈l++qm b I' op pp c a wd (h_ c) (bQ c sl.toNat)::r:=List.mem_append_right _ (List.mem_cons_self ..);have ho1:(⟨op,pp,c,a,wd,bR (aL b.X.pl a) (bQ c sl.toNat) (h_ c)⟩:bY)∈(qm b I' op pp c a wd (h_ c) (bQ c sl.toNat)).X.L:=fZ.2 (.inl rfl);have hown: ∀w9,Below w5.heap.size w5 w9→aV w9 op 100 (Px ⟨op,pp,c,a,wd,bR (aL b.X.pl a) (bQ c sl.toNat) (h_ c)⟩):=fun w9 zC=>((n5.z.sg Xn).grew zC).own _ ho1;refine ⟨fun w9 zC=>(uh (LY.below (ah n5.b n5.b.size zC)) h hcr.1 hcr.2).mono fun e w' k=>⟨k.1,ah zC zC.size k.2⟩,fun w9 zC=>(hown w9 zC).cell 1,fun w9 zC=> ?_⟩;refine (DJ (n5.grew zC) Xn ho1 fun i hi=>Nat.le_trans (kS gd i).2 (by decide)).mono fun e w' ⟨e1,O',n6,_,_⟩=> ?_;have hob:=(n6.z.sg Xn).own _ ho1;refine ⟨e1,⟨hob.cell 0,hob.cell 1⟩, ?_⟩;have hk:jD (Q (qi c)) (aD.keyOf (qm b I' op pp c a wd (h_ c) (bQ c sl.toNat)).X ⟨op,pp,c,a,wd,bR (aL b.X.pl a) (bQ c sl.toNat) (h_ c)⟩)=(bK (Q (qi c)) [iH b.X.pl a]).1:=JA hadd.2;have hal:aP (bR (aL b.X.pl a) (bQ c sl.toNat) (h_ c))=(aF.fresh (aL b.X.pl a) (bQ c sl.toNat) (h_ c) 1,aL b.X.pl a,0):=by
  rw [←yO];exact vI p3
 have AL:=Bf n6 ho1 fun k hk=>by
  rcases nN hbp hk with x|x
  · exact .inl (.inr x)
  · exact .inr (by omega)
 change Calls _ _ #[.pointer (some ⟨pp,0,none⟩)] _ fun e w'=>e= .returned (.tuple #[.int .u64 ((aP (bR (aL b.X.pl a) (bQ c sl.toNat) (h_ c))).2.1:Int), .int .i64 (aP (bR (aL b.X.pl a) (bQ c sl.toNat) (h_ c))).2.2])∧ ∃L',Agree L L' (b_ (bR (aL b.X.pl a) (bQ c sl.toNat) (h_ c)))∧Hn C w (HO p g own O (l++b::r)) w' h O' id p g q own L' A (l++eY (qm b I' op pp c a wd (h_ c) (bQ c sl.toNat)) ⟨op,pp,c,a,wd,bR (aL b.X.pl a) (bQ c sl.toNat) (h_ c)⟩ (aP (bR (aL b.X.pl a) (bQ c sl.toNat) (h_ c))).1::r) R (iV Q (qi c) (jD (Q (qi c)) (aD.keyOf (qm b I' op pp c a wd (h_ c) (bQ c sl.toNat)).X ⟨op,pp,c,a,wd,bR (aL b.X.pl a) (bQ c sl.toNat) (h_ c)⟩)))∧_ at AL;rw [hal,hk] at AL;refine AL.mono fun e2 w2 ⟨k1,L2,k2,k3,_⟩=>⟨k1, ?_⟩;unfold qX;rw [hwd,hrm];refine ⟨op,pp,k1,by omega,by omega,iJ (w1:=w) (td:=⟨O',own,_,k3, ?_,fun k hk=> .inl hk⟩) (fun k hk=> ?_) (Nat.le_refl _) ?_ k2.1 k2⟩
 · have e1:=rU (l:=l) (b:=b) (r:=r) (Q:=Q) (X':=gV b.X op pp c sl.toNat a) nr.z.jK rfl
   show _=((aN (l++b::r) Q).eu (gV b.X op pp c sl.toNat a)).B;rw [e1,List.map_append,List.map_cons];unfold gV;rw [hwd]
 · rcases nN (b':=eY (qm b I' op pp c a wd (h_ c) (bQ c sl.toNat)) ⟨op,pp,c,a,wd,bR (aL b.X.pl a) (bQ c sl.toNat) (h_ c)⟩ (aF.fresh (aL b.X.pl a) (bQ c sl.toNat) (h_ c) 1)) (fun x hx=>hbp x (kX.1 hx)) hk with x|x
   · exact .inl x
   · exact .inr (by omega)
 · exact yN gd wR hb' (by rw [hwd];exact hl) hp
theorem vD (LY:Lay w0) (hw:Below w0.heap.size w0 w) {c sl sg:Int} {us:Nat} (z:Hz C gI w h O id p g q own L A B R Q) (hc:dH c) (hs:dH sl) (hb: ¬eX c sl):
 Calls Tryz.prog 78 #[.pointer (some ⟨h,0,none⟩),JI c sl sg us] w (qX C w h O id p g q own L A B R Q c sl):=by
 obtain ⟨W1,hW1⟩: ∃W1,w.alloc (.cells #[.int .i64 c, .int .i64 sl, .int .i64 sg, .int .u64 (us:Int)] 38)=W1:=⟨_,rfl⟩;obtain ⟨bp,hbp⟩: ∃bp,w.heap.size=bp:=⟨_,rfl⟩;have hb1:Below w.heap.size w W1:=by rw [←hW1];exact (Below.refl _ _).alloc (Nat.le_refl _) _
 have bB:aV W1 bp 38 #[.int .i64 c, .int .i64 sl, .int .i64 sg, .int .u64 (us:Int)]:=by rw [←hW1,←hbp];exact aV.new w _ _
 have c0:W1.cell? ⟨bp,0,none⟩=some (.int .i64 c):=bB.cell 0;have c1:W1.cell? ⟨bp,1,none⟩=some (.int .i64 sl):=bB.cell 1;have c2:W1.cell? ⟨bp,2,none⟩=some (.int .i64 sg):=bB.cell 2;have c3:W1.cell? ⟨bp,3,none⟩=some (.int .u64 (us:Int)):=bB.cell 3;have CC:=Lib.hid (And.intro c0 (And.intro c1 (And.intro c2 c3)));have hw1:=ah hw hw.size hb1;have MB:=Lib.hid (PZ (sg:=sg) (us:=us) (LY.below hw1) hc hs);rw [decide_eq_true hb] at MB;have n1:Hn C w (HO p g own O B) W1 h O id p g q own L A B R Q:=(Hn.start (T:=HO p g own O B) hw (Hr.of z) fun k hk=> .inl hk).grew hb1;obtain ⟨av,cap,c16,hc1,hc2,hrow,-⟩:=n1.z.row;obtain ⟨n,hn⟩: ∃n,B.length=n:=⟨_,rfl⟩;rw [hn] at c16 hc1;have HN:=Lib.hid hn;have ROW:=Lib.hid hrow;have N1:=Lib.hid n1;have HB1:=Lib.hid hb1;have C16:=Lib.hid (fun w2 (hb:Below W1.heap.size W1 w2)=>iM c16 hb);obtain ⟨wd,hwd⟩: ∃wd,dZ c sl.toNat=wd:=⟨_,rfl⟩;have I0:Hid (∀w2,Below W1.heap.size W1 w2→Yu W1 (fun b=>aj.low b.X.K wd=none) B (.int .i64 0) w2):=Lib.hid fun w2 hb=>⟨0,Nat.zero_le _,rfl,(fun x hx=>by simp at hx),hb⟩;have HWD:=Lib.hid hwd;have HBAD:=Lib.hid hb;have LYY:=Lib.hid LY;have GZ:=Lib.hid z.good;clear LY hw hw1 bB hc hs hb z n1 hrow hn hwd c16 hb1;go_enter Tryz.func78,Tryz.ntmps78
 go_wp2_with fail
 refine MB.out.mono ?_;rintro e w2 ⟨rfl,hb⟩;have Yo:=C16.out w2 hb;have I1:=Lib.hid (I0.out w2 hb);clear hb c0 c1 c2 c3 I0;go_wp2;clear Yo;go_loopw [20] (fun i wr=>Yu W1 (fun b=>aj.low b.X.K wd=none) B i wr) (fun i _=>n-(intOf i).toNat)
 case atStart=>exact I1.out
 case round=>
  clear I1;obtain ⟨t,ht,rfl,hall,hb⟩:=hrel;rw [HN.out] at ht;have Jk:=Lib.hid hall;have BB:=Lib.hid hb;by_cases htn:t<n
  · obtain ⟨b,hbt⟩: ∃b,B[t]? =some b:=⟨_,List.getElem?_eq_getElem (by rw [HN.out];exact htn)⟩
    obtain ⟨bk,off,rfl,d0⟩:=ROW.out wr hb t b hbt;have e0:=iM CC.out.1 hb;have e1:=iM CC.out.2.1 hb;have e2:=iM CC.out.2.2.1 hb;have e3:=iM CC.out.2.2.2 hb;have t2:decide ((t:Int)<(n:Int))=true:=decide_eq_true (by omega);have t2':decide (t<n)=true:=decide_eq_true htn;have q3:(0:Int)≤(t:Int):=by omega
    have q4:(t:Int)<(n:Int):=by omega
    have pY:=List.mem_of_getElem? hbt;have nr:=N1.out.grew hb;have K:=Lib.hid (QO (sg:=sg) (us:=us) nr.b (nr.z.sg pY) HBAD.out);unfold pW at K;rw [HWD.out] at K;have HBT:=Lib.hid hbt;obtain ⟨sp,hsp⟩: ∃sp,b.sp=sp:=⟨_,rfl⟩;rw [hsp] at d0 K;cases hl:aj.low b.X.K wd with
    |none=>
     rw [hl] at K;have HL:=Lib.hid hl;clear hall hb hbt hl nr pY hsp;go_wp2_with fail
     refine K.out.mono ?_;rintro e w3 ⟨rfl,hb⟩;have B3:=Lib.hid (ah BB.out BB.out.size hb);clear hb e0 e1 e2 e3;go_wp2;go_roundw
     case rel=>exact ⟨t+1,by rw [HN.out];omega,by go_num,tY HBT.out Jk.out HL.out,B3.out⟩
     case measure=>simp [intOf];omega
    |some a=>
     rw [hl] at K;have hrm:iX (aN B Q) wd=some (b.X,a):=Gq hall hbt hl;obtain ⟨l,r,rfl⟩:=List.append_of_mem pY;have hws:w.heap.size≤wr.heap.size:=Nat.le_trans HB1.out.size hb.size;have TL:=Lib.hid (fun w5 op pp I'=>Ii LYY.out nr GZ.out HBAD.out HWD.out hrm hws (w5:=w5) (op:=op) (pp:=pp) (I':=I'));rw [hsp] at TL;clear hall hb hbt hl nr pY hsp hrm hws;go_wp2_with fail
     refine K.out.mono ?_;rintro e w5 ⟨op,pp,I',rfl,h5,h6,h7,h8,h9⟩;obtain ⟨OF',D1',PU'⟩:=TL.out w5 op pp I' h5 h6 h7 h8 h9;have OF:=Lib.hid OF';have D1:=Lib.hid D1';have PU:=Lib.hid PU';have B5:=Lib.hid (Below.refl w5.heap.size w5);clear h5 h6 h7 h8 h9 OF' D1' PU' e0 e1 e2 e3 K TL;go_wp2;go_region_held3 (fun w'=>w'.cell? ⟨op,1,none⟩=some (.int .i64 c)) (first|exact D1.out _ B5.out|exact D1.out _ B5.out.drew|exact C6.out.2)
      (first
       |(go_at_call 100;(first|(with_reducible refine (OF.out _ B5.out.drew).mono ?_)|(with_reducible refine (OF.out _ B5.out).mono ?_));rintro e w6 ⟨rfl,hb⟩;have B5:=Lib.hid hb;clear hb)
       |(go_at_call 119;(with_reducible refine (PU.out _ B5.out).mono ?_);rintro e w6 ⟨rfl,hc6,hal⟩;have C6:=Lib.hid hc6;have AL:=Lib.hid hal;clear hc6 hal))
     have d6:=C6.out.1;go_wp2_with fail
     refine AL.out.mono ?_;rintro e w7 ⟨rfl,hp⟩;have FP:=Lib.hid hp;clear hp d6;go_wp2
     go_ret2
     exact FP.out
  · obtain rfl:t=n:=by omega
    have t2:decide ((t:Int)<(t:Int))=false:=decide_eq_false (by omega);have e9:iX (aN B Q) wd=none:=Gs fun x hx=>hall x (by rw [←HN.out,List.take_length];exact hx);have FIN:Hid (qX C w h O id p g q own L A B R Q c sl (.returned (.tuple #[.int .u64 0, .int .i64 4])) wr):=Lib.hid (by
     unfold qX;rw [HWD.out,e9];exact ⟨rfl,ah HB1.out HB1.out.size hb⟩)
    clear hall hb e9;go_wp2
    go_ret2
    exact FIN.out
end
end Go.Proofs.YtpibbcnkgdmcbaaGreatDoor
namespace Go.Proofs.YtpibbcnkgdmcbaaGreatDoor
open Go.RowKit aC aF aG aI au aD aB aA
theorem Ht:(Tryz.prog.info? 65).map (fun i=>(i.zero,i.size,i.bytes))=some (some (.pointer none),1,8):=by kernel_rfl
def Dr (s:Nat):Option Addr:=some ⟨s,0,none⟩
theorem Lf (A:St) (hA:aA.Good A):(∃a:Nat,reserve A 1=((a:Int),0,A.give a 1)∧a+1≤A.S∧(∀x,x∈(A.give a 1).l↔x∈A.l∨x=(a,1))∧ ∀x∈A.l,x.1≠a)∨((reserve A 1).2.1≠0∧(reserve A 1).2.2.l=A.l∧(reserve A 1).2.2.S=A.S):=by
 unfold reserve;by_cases h1:aA.far A 1
 · rw [if_pos h1];exact .inr ⟨(show (2:Int)≠0 by decide),rfl,rfl⟩
 · rw [if_neg h1]
   by_cases h2:A.T.headD false=true∨A.lim<aA.total A.l+(1:Int).toNat
   · rw [if_pos h2];exact .inr ⟨(show (4:Int)≠0 by decide),rfl,rfl⟩
   · rw [if_neg h2]
     cases hsp:aA.spot A.S A.l (1:Int).toNat with
     |none=>exact .inr ⟨(show (4:Int)≠0 by decide),rfl,rfl⟩
     |some a=>
      obtain ⟨s1,s2,_⟩:=aA.jY hsp;refine .inl ⟨a,rfl,s1,fun x=>(aA.mY hA.ok s2 (by decide)).trans Or.comm,fun x hx e=> ?_⟩;have h3:=(hA.ok.2 _ hx).1;exact s2 _ hx ⟨by show a<x.1+x.2;omega,by show x.1<a+1;omega⟩
theorem BJ {B:List SB} (hn:(B.map fun b=>b.X.pl).Nodup) (h: ∀b∈B,b.X.pl≤63):B.length≤64:=by
 have h1:((B.map fun b=>b.X.pl).map fun n:Nat=>(n:Int)).Nodup:=List.pairwise_map.2 (hn.imp fun {a b} hab e=>hab (by omega));have h2:=m_ 64 h1 fun x hx=>by
  obtain ⟨y,hy,rfl⟩:=List.mem_map.1 hx;obtain ⟨b,hb,rfl⟩:=List.mem_map.1 hy;have:=h b hb;omega
 rw [List.length_map,List.length_map] at h2;exact h2
section
variable {w0 ws w w' w1:World} {C:fH w0} {h id p g q:Nat} {O own own' T:Nat→Prop} {L L':List Nat} {A A':St} {B R l r:List SB} {b:SB} {Q:Nat→QR}
theorem gI.push (z:gI w h O id p q (gM B) Q) (b:SB): ∃a cap,w.cell? ⟨h,16,none⟩=some (.slice a B.length cap)∧Vec Elem.ptrs w (.slice a B.length cap) ((B.map fun b=>b.sp).map Dr)∧B.length≤cap∧cap≤9223372036854775807∧
 ∀w1 v',aH (In (.slice a B.length cap)) w w1→Vec Elem.ptrs w1 v' ((B.map fun b=>b.sp).map Dr++ [Dr b.sp])→(∀k,In v' k→In (.slice a B.length cap) k∨w.heap.size≤k)→
  (∃y,w1.cell? ⟨h,16,none⟩=some y)∧w1.frozen? ⟨h,16,none⟩=false∧ ∃O',gI (w1.setCell ⟨h,16,none⟩ v') h O' id p q (gM (B++ [b])) Q∧(∀k,O' k→O k∨w.heap.size≤k)∧aH O w (w1.setCell ⟨h,16,none⟩ v'):=by
 have z2:=z;obtain ⟨f,OQ,v0,hc,hO⟩:=z2;obtain ⟨v,c16,Wi,hv,hin,hre⟩:=z.uZ;obtain ⟨a,cap,rfl,h1,h2⟩:=hv.slice';have hl:(((gM B).map fun s=>s.1).map fun s=>(some ⟨s,0,none⟩:Option Addr)).length=B.length:=by unfold gM;simp
 rw [hl] at c16 hv hin hre h1;rw [xD] at hv;refine ⟨a,cap,c16,hv,h1,h2,fun w1 v' u hv' hin'=> ?_⟩;have e0:v0= .slice a B.length cap:=by
  have:=hc.blk.cell 16;rw [c16] at this;injection this with this
  exact this.symm
 have hb:=hc.blk.upd u fun x=>(hin h x).2 rfl;refine ⟨⟨_,hb.cell 16⟩,hb.frozen 16,hre w1 v' (gM (B++ [b])) u ?_ hin'⟩;rw [xD,List.map_append,List.map_append];exact hv'
theorem Hr.more (hw:Below w0.heap.size w0 w) (hp:gI w h O id p q (gM (B++ [b])) Q) (sh:jO C w p g L ((B++R)++ [b])) (ia:bL w q own' A') (hS:A'.S=A.S) (hsz:A.S*16384=L.length) (jK: ∀b∈B++R,(b.X.pl,1)∈A.l) (hl: ∀x,x∈A'.l↔x∈A.l∨x=(b.X.pl,1))
 (hao: ∀k,own' k→k≠p∧k≠g∧ ∀a∈(B++R)++ [b],¬BP a k) (hap: ∀k,O k→k≠p∧k≠g∧ ¬own' k∧ ∀a∈(B++R)++ [b],¬BP a k) (hlo: ∀k,O k∨k=p∨k=g∨own' k∨(∃a∈(B++R)++ [b],BP a k)→w0.heap.size≤k):Hr C w h O id p g q own' L A' (B++ [b]) R Q:=by
 have hperm:((B++R)++ [b]).Perm ((B++ [b])++R):=by
  rw [List.append_assoc,List.append_assoc];exact List.Perm.append_left B List.perm_append_comm
 refine ⟨hp,⟨sh.perm hperm,ia,by rw [hS];exact hsz,fun a ha=> ?_,fun k hk=>⟨(hao k hk).1,(hao k hk).2.1,fun a ha=>(hao k hk).2.2 a (hperm.mem_iff.2 ha)⟩⟩,fun k hk he=> ?_,fun k hk=>hlo k ?_⟩
 · rw [hl]
   rcases List.mem_append.1 (hperm.mem_iff.2 ha) with ha|ha
   · exact .inl (jK a ha)
   · rw [List.mem_singleton.1 ha];exact .inr rfl
 · rcases he with x|x|x|⟨a,ha,x⟩
   · exact (hap k hk).1 x
   · exact (hap k hk).2.1 x
   · exact (hap k hk).2.2.1 x
   · exact (hap k hk).2.2.2 a (hperm.mem_iff.2 ha) x
 · rcases hk with hk|hk|hk|hk|⟨a,ha,hk⟩
   · exact .inl hk
   · exact .inr (.inl hk)
   · exact .inr (.inr (.inl hk))
   · exact .inr (.inr (.inr (.inl hk)))
   · exact .inr (.inr (.inr (.inr ⟨a,hperm.mem_iff.2 ha,hk⟩)))
theorem Te (hm:bC w p g L) (hlen:L.length≤1048576) {a sp:Nat} {I:Nat→Prop} {c:Addr} (ha:(a+1)*16384≤L.length) (hi:C.Int' w sp p I c (iY a)) (hI: ¬I p∧ ¬I g):Sg C.Int' w sp p g I c L (iY a):=
 ⟨hi,hm,⟨ha,hlen⟩,(show a≤63 by omega),bX.new a,(fun o ho=>by cases ho),(fun o ho=>by cases ho),List.nodup_nil,List.nodup_nil,hI.1,hI.2,fun o ho=>by cases ho⟩
theorem Uy (hw:Below w0.heap.size w0 w) (z:Hz C gI w h O id p g q own L A B R Q) (hr:A.r≤1000000000000) {a:Nat} (e1:reserve A 1=((a:Int),0,A.give a 1)) (haS:a+1≤A.S) (hal: ∀x,x∈(A.give a 1).l↔x∈A.l∨x=(a,1)) (han: ∀x∈A.l,x.1≠a):
 Calls Tryz.prog 16 #[.pointer (some ⟨q,0,none⟩), .int .i64 1] w fun e w1=>e= .returned (.tuple #[.int .i64 (a:Int), .int .i64 0])∧w1.cell? ⟨h,13,none⟩=some (.pointer (some ⟨p,0,none⟩))∧
  Calls Tryz.prog 126 #[.pointer (some ⟨p,0,none⟩), .int .i64 (a:Int)] w1 fun e2 w2=> ∃sp c,e2= .returned (.tuple #[.pointer (some ⟨sp,0,none⟩), .int .i64 0])∧(∀w9,Below w2.heap.size w2 w9→w9.cell? ⟨h,15,none⟩=some (.int .u64 (id:Int)))∧
   (∀w9,Below w2.heap.size w2 w9→Calls Tryz.prog 81 #[.pointer (some ⟨sp,0,none⟩)] w9 fun e w'=>e= .returned (.pointer (some c))∧Below w2.heap.size w2 w')∧
   ∀w9,Below w2.heap.size w2 w9→Calls Tryz.prog 82 #[.pointer (some c), .int .u64 (id:Int)] w9 fun e3 w3=>e3= .returned (.tuple #[])∧w3.cell? ⟨h,15,none⟩=some (.int .u64 (id:Int))∧
    ∃av cap,w3.cell? ⟨h,16,none⟩=some (.slice av B.length cap)∧Vec Elem.ptrs w3 (.slice av B.length cap) ((B.map fun b=>b.sp).map Dr)∧B.length≤cap∧cap≤9223372036854775807∧
     ∀w4 v',aH (In (.slice av B.length cap)) w3 w4→Vec Elem.ptrs w4 v' ((B.map fun b=>b.sp).map Dr++ [Dr sp])→(∀k,In v' k→In (.slice av B.length cap) k∨w3.heap.size≤k)→
      (∃y,w4.cell? ⟨h,16,none⟩=some y)∧w4.frozen? ⟨h,16,none⟩=false∧Turned C gI w h O id p g q own L B R (w4.setCell ⟨h,16,none⟩ v') (cZ (aN B Q) A id).1 (cZ (aN B Q) A id).2.2 fun L'=>L'=L:=by
 have hlen:L.length≤1048576:=by have:=z.env.size;have:=z.env.ar.good.S2;omega
 have uE: ∀k,own k→EO p g own (B++R) k:=fun k hk=> .inr (.inr (.inl hk));have hO: ∀k,O k→k<w.heap.size:=z.hp.num.2.1;have Qn:=z.hp.num;refine (jC z.env.ar 1 hr).mono fun e w1 ⟨k1,⟨own',ia,hown⟩,u1⟩=> ?_;rw [e1] at k1 ia;have us1:=u1.size;have hp1:gI w1 h O id p q (gM B) Q:=z.hp.upd u1 fun k hk ho=>z.ap k ho (uE k hk);have YK:=z.env.dJ.upd u1 fun k hk=>z.env.ao k hk;have b1:Below w0.heap.size w0 w1:=hw.trans (u1.below (fun k hk=>z.lo k (.inr (uE k hk))) hw.size);obtain ⟨f1,OQ1,v1,hc1,Yj⟩:=hp1;have hp1:gI w1 h O id p q (gM B) Q:=⟨f1,OQ1,v1,hc1,Yj⟩;have hsz:=z.env.size;refine ⟨k1,hc1.blk.cell 13,(C.new w1 b1 YK.mem hlen (pl:=a) (by omega)).mono fun e2 w2 ⟨sp,c,I,k2,hi,hI,hb2⟩=>⟨sp,c,k2,fun w9 zC=> ?_, ?_⟩⟩
 · have hb:=(hc1.blk.grew hb2).grew zC
   exact hb.cell 15
 have hpl:=YK.mem.head.lt;have hgl:=YK.mem.row.lt;have Yh: ∀k,I k→w.heap.size≤k:=fun k hk=>Nat.le_trans us1 (hI k hk);have sg2:Sg C.Int' w2 sp p g I c L (iY a):=Te ((YK.grew hb2).mem) hlen (by omega) hi ⟨fun x=>by have:=hI p x;omega,fun x=>by have:=hI g x;omega⟩;have bw2:=ah b1 b1.size hb2;refine ⟨fun w9 zC=> ?_,fun w9 zC=> ?_⟩
 · exact (C.owner w9 (ah bw2 bw2.size zC) (sg2.grew zC)).mono fun e w' k=>⟨k.1,ah zC zC.size k.2⟩
 refine (C.Py w9 (ah bw2 bw2.size zC) (y:=id) (sg2.grew zC) (by show (0:Nat)≤1000000000;omega) Qn.2.2.2).mono fun e3 w3 ⟨k3,sg3,u3⟩=> ?_;have Ib:Below w1.heap.size w1 w9:=ah hb2 hb2.size zC;have us3:=u3.size;have us9:=Ib.size;have hIO: ∀k,I k→ ¬O k:=fun k hk ho=>by have:=hO k ho;have:=Yh k hk;omega
 have hp3:gI w3 h O id p q (gM B) Q:=(hp1.upd (ak Ib) fun _ x=>x.elim).upd u3 hIO;have hnE: ∀k,I k→ ¬EO p g own (B++R) k:=fun k hk he=>by have:=z.env.lt he;have:=Yh k hk;omega
 have sh3:jO C w3 p g L (B++R):=(YK.grew Ib).upd u3 fun k hk=>⟨fun e=>hnE k hk (.inl e),fun e=>hnE k hk (.inr (.inl e)),fun b hb x=>hnE k hk (.inr (.inr (.inr ⟨b,hb,x⟩)))⟩;have VI: ∀k,own' k→ ¬I k:=fun k hk hi2=>by
  have h1:=ia.lt hk;have h2:=hI k hi2;omega
 have ia3:bL w3 q own' (A.give a 1):=(ia.upd (ak Ib) fun _ _ x=>x.elim).upd u3 VI;have abl:w3.cell? ⟨h,15,none⟩=some (.int .u64 (id:Int)):=by
  have hq3:=hp3;obtain ⟨f3,OQ3,v3,hc3,hO3⟩:=hq3;exact hc3.blk.cell 15
 obtain ⟨bn,hbn⟩: ∃bn:SB,(⟨sp,I,c,aY id a⟩:SB)=bn:=⟨_,rfl⟩;have ZA: ∀x,BP bn x→I x:=fun x hx=>by
  rw [←hbn] at hx;rcases hx with hx|⟨o,ho,_⟩
  · exact hx
  · cases ho
 have Zz:bn.X.pl=a:=by rw [←hbn];rfl
 have abK:bn.sp=sp:=by rw [←hbn]
 have YJ:jO C w3 p g L ((B++R)++ [bn]):=sh3.more (by rw [←hbn];exact sg3) (fun b hb e=>by
  have h1:=z.env.jK b hb;exact han _ h1 (by rw [e];exact Zz)) fun x hx b hb hp=>hnE x (ZA x hx) (.inr (.inr (.inr ⟨b,hb,hp⟩)))
 obtain ⟨av,cap,c16,hv,hc1',hc2',hre⟩:=hp3.push bn;refine ⟨k3,abl,av,cap,c16,hv,hc1',hc2',fun w4 v' u4 hv4 Xl=> ?_⟩;obtain ⟨hy,hz,O',hp4,hO4,u5⟩:=hre w4 v' u4 (by rw [abK];exact hv4) Xl;refine ⟨hy,hz, ?_⟩;have hE: ∀k,O k→k≠p∧k≠g∧ ¬own' k∧ ∀b∈(B++R)++ [bn],¬BP b k:=fun k hk=>by
  refine ⟨fun e=>z.ap k hk (.inl e),fun e=>z.ap k hk (.inr (.inl e)),fun ho=> ?_,fun b hb hx=> ?_⟩
  · rcases hown k ho with x|x
    · exact z.ap k hk (uE k x)
    · have:=hO k hk;omega
  · rcases List.mem_append.1 hb with hb|hb
    · exact z.ap k hk (.inr (.inr (.inr ⟨b,hb,hx⟩)))
    · rw [List.mem_singleton.1 hb] at hx
      exact hIO k (ZA k hx) hk
 have hO5: ∀k,O' k→O k∨w.heap.size≤k:=fun k hk=>(hO4 k hk).imp (fun x=>x) fun x=>by omega
 have hlt3: ∀k,(k=p∨k=g∨own' k∨ ∃b∈(B++R)++ [bn],BP b k)→k<w3.heap.size:=fun k hk=>by
  rcases hk with e|e|e|⟨b,hb,e⟩
  · rw [e];exact sh3.mem.head.lt
  · rw [e];exact sh3.mem.row.lt
  · exact ia3.lt e
  · exact YJ.lt hb e
 have Zy:Below w0.heap.size w0 w3:=(ah b1 b1.size Ib).trans (u3.below (fun k hk=>by have:=Yh k hk;have:=hw.size;omega) (ah b1 b1.size Ib).size);have abJ:=Zy.trans (u5.below (fun k hk=>z.lo k (.inl hk)) Zy.size);have hr:=Hr.more (b:=bn) (R:=R) (A:=A) abJ hp4 (YJ.upd u5 fun k hk=>⟨(hE k hk).1,(hE k hk).2.1,(hE k hk).2.2.2⟩) (ia3.upd u5 fun k hk ho=>(hE k ho).2.2.1 hk) rfl hsz z.env.jK (by rw [Zz];exact hal) (fun k hk=> ?_) (fun k hk=> ?_) (fun k hk=> ?_)
 · have eG:cZ (aN B Q) A id=({aN B Q with B:=(aN B Q).B++ [aY id a]},0,A.give a 1):=by
    unfold cZ;rw [e1,if_neg (by simp)];simp
   have gg:=Av (id:=id) z.good z.env.ar.good fun X hX=>by
    obtain ⟨b,hb,rfl⟩:=List.mem_map.1 hX;exact ⟨1,z.env.jK b (List.mem_append_left _ hb)⟩
   rw [eG] at gg⊢;have eB:(B++ [bn]).map (fun b=>b.X)=(aN B Q).B++ [aY id a]:=by
    rw [List.map_append,←hbn];rfl
   refine ⟨O',own',L,B++ [bn],hr.to (by rw [oO (H:=aN (B++ [bn]) Q) (H':={aN B Q with B:=(aN B Q).B++ [aY id a]}) eB rfl];exact gg),eB,rfl,rfl,fun k hk=> ?_, ?_⟩
   · rcases hk with hk|hk|hk|hk|⟨b,hb,hk⟩
     · exact (hO5 k hk).imp .inl fun x=>x
     · exact .inl (.inr (.inl hk))
     · exact .inl (.inr (.inr (.inl hk)))
     · exact (hown k hk).imp (fun x=> .inr (.inr (.inr (.inl x)))) fun x=>x
     · rcases List.mem_append.1 hb with hb|hb
       · exact .inl (.inr (.inr (.inr (.inr ⟨b,hb,hk⟩))))
       · rw [List.mem_singleton.1 hb] at hk
         exact .inr (Yh k (ZA k hk))
   · have c1:aH (HO p g own O B) w w1:=u1.mono fun k hk=> .inr (.inr (.inr (.inl hk)))
     have c2:=c1.step (ak Ib) fun _ x=>x.elim;have c3:=c2.step u3 fun k hk=> .inr (Yh k hk);exact c3.step u5 fun k hk=> .inl (.inl hk)
 · refine ⟨fun e=> ?_,fun e=> ?_,fun b hb hx=> ?_⟩
   · rcases hown k hk with x|x
     · exact (z.env.ao k x).1 e
     · have:=z.env.dJ.mem.head.lt;omega
   · rcases hown k hk with x|x
     · exact (z.env.ao k x).2.1 e
     · have:=z.env.dJ.mem.row.lt;omega
   · rcases List.mem_append.1 hb with hb|hb
     · rcases hown k hk with x|x
       · exact (z.env.ao k x).2.2 b hb hx
       · have:=z.env.dJ.lt hb hx;omega
     · rw [List.mem_singleton.1 hb] at hx
       exact VI k hk (ZA k hx)
 · rcases hO4 k hk with x|x
   · exact hE k x
   · refine ⟨fun e=> ?_,fun e=> ?_,fun e=> ?_,fun b hb e=> ?_⟩
     · have:=hlt3 k (.inl e);omega
     · have:=hlt3 k (.inr (.inl e));omega
     · have:=hlt3 k (.inr (.inr (.inl e)));omega
     · have:=hlt3 k (.inr (.inr (.inr ⟨b,hb,e⟩)));omega
 · have h0:=hw.size
   rcases hk with hk|e|e|e|⟨b,hb,e⟩
   · rcases hO5 k hk with x|x
     · exact z.lo k (.inl x)
     · omega
   · exact z.lo k (.inr (.inl e))
   · exact z.lo k (.inr (.inr (.inl e)))
   · rcases hown k e with x|x
     · exact z.lo k (.inr (uE k x))
     · omega
   · rcases List.mem_append.1 hb with hb|hb
     · exact z.lo k (.inr (.inr (.inr (.inr ⟨b,hb,e⟩))))
     · rw [List.mem_singleton.1 hb] at e
       have:=Yh k (ZA k e);omega
end
end Go.Proofs.YtpibbcnkgdmcbaaGreatDoor
namespace Go.Proofs.YtpibbcnkgdmcbaaGreatDoor
open Go.RowKit aC aF aG aI au aD aB aA
section
variable {w0 ws w w' w1:World} {C:fH w0} {h id p g q:Nat} {O own own' T:Nat→Prop} {L L':List Nat} {A A':St} {B R l r:List SB} {b:SB} {Q:Nat→QR}
theorem Jb (hw:Below w0.heap.size w0 w) (z:Hz C gI w h O id p g q own L A B R Q) (ia:bL w' q own' A') (hl:A'.l=A.l) (hS:A'.S=A.S) (hown: ∀k,own' k→own k∨w.heap.size≤k) (u:aH own w w'):Turned C gI w h O id p g q own L B R w' (aN B Q) A' fun L'=>L'=L:=by
 have uE: ∀k,own k→EO p g own (B++R) k:=fun k hk=> .inr (.inr (.inl hk));have hE: ∀k,EO p g own' (B++R) k→EO p g own (B++R) k∨w.heap.size≤k:=fun k hk=>by
  rcases hk with x|x|x|⟨a,ha,x⟩
  · exact .inl (.inl x)
  · exact .inl (.inr (.inl x))
  · exact (hown k x).imp (uE k) fun x=>x
  · exact .inl (.inr (.inr (.inr ⟨a,ha,x⟩)))
 have env:=z.env;refine ⟨O,own',L,B,⟨z.hp.upd u fun k hk ho=>z.ap k ho (uE k hk),⟨env.dJ.upd u fun k hk=>env.ao k hk,ia,by rw [hS];exact env.size,fun b hb=>by rw [hl];exact env.jK b hb,fun k hk=> ?_⟩,z.good,fun k hk he=> ?_,fun k hk=> ?_⟩,rfl,rfl,rfl,fun k hk=> ?_,u.mono fun k hk=> .inr (.inr (.inr (.inl hk)))⟩
 · rcases hown k hk with x|x
   · exact env.ao k x
   · refine ⟨fun e=> ?_,fun e=> ?_,fun a ha hp=> ?_⟩
     · have:=env.dJ.mem.head.lt;omega
     · have:=env.dJ.mem.row.lt;omega
     · have:=env.dJ.lt ha hp;omega
 · rcases hE k he with x|x
   · exact z.ap k hk x
   · have:=z.hp.num.2.1 k hk;omega
 · rcases hk with hk|hk
   · exact z.lo k (.inl hk)
   · rcases hE k hk with x|x
     · exact z.lo k (.inr x)
     · have:=hw.size;omega
 · rcases hk with hk|hk|hk|hk|⟨a,ha,hk⟩
   · exact .inl (.inl hk)
   · exact .inl (.inr (.inl hk))
   · exact .inl (.inr (.inr (.inl hk)))
   · exact (hown k hk).imp (fun x=> .inr (.inr (.inr (.inl x)))) fun x=>x
   · exact .inl (.inr (.inr (.inr (.inr ⟨a,ha,hk⟩))))
theorem Uu (hw:Below w0.heap.size w0 w) (z:Hz C gI w h O id p g q own L A B R Q) (hr:A.r≤1000000000000):
 Calls Tryz.prog 86 #[.pointer (some ⟨h,0,none⟩)] w fun e w'=>e= .returned (.int .i64 (cZ (aN B Q) A id).2.1)∧Turned C gI w h O id p g q own L B R w' (cZ (aN B Q) A id).1 (cZ (aN B Q) A id).2.2 fun L'=>L'=L:=by
 obtain ⟨f,OQ,v,hc,hO⟩:=z.hp;have c14:w.cell? ⟨h,14,none⟩=some (.pointer (some ⟨q,0,none⟩)):=hc.blk.cell 14;clear hc hO;rcases Lf A z.env.ar.good with ⟨a,e1,haS,hal,han⟩|⟨hne,hl,hS⟩
 · have RV:=Lib.hid (Uy hw z hr e1 haS hal han)
   have e0:(cZ (aN B Q) A id).2.1=0:=by unfold cZ;rw [e1,if_neg (by simp)]
   have HE0:=Lib.hid e0;have hlen:B.length≤64:=BJ (Hr.of z).jK fun b hb=>((Hr.of z).sg hb).pl;obtain ⟨n,hn⟩: ∃n,B.length=n:=⟨_,rfl⟩;rw [hn] at RV hlen;obtain ⟨Lp,Xp⟩: ∃Lp,(B.map fun b=>b.sp).map Dr=Lp:=⟨_,rfl⟩;rw [Xp] at RV;have ZH:Lp.length=n:=by rw [←Xp,←hn];simp
   have HL:=Lib.hid ZH;obtain ⟨i0,hi,hz0,hz1,hz2⟩:=info_parts Ht;clear hw z hr e1 haS hal han e0 hn Xp ZH;go_enter Tryz.func86,Tryz.ntmps86
   go_wp2_with fail
   refine RV.out.mono ?_;rintro e w1 ⟨rfl,c13,hnx⟩;have NX:=Lib.hid hnx;clear hnx c14 RV;go_wp2_with fail
   refine NX.out.mono ?_;rintro e w2 ⟨sp,c,rfl,Xq,how,hst⟩;have H15:=Lib.hid Xq;have OW:=Lib.hid how;have ST:=Lib.hid hst;have BB:=Lib.hid (Below.refl w2.heap.size w2);clear Xq how hst c13 NX;go_wp2;go_region_held3 (fun w'=>w'.cell? ⟨h,15,none⟩=some (.int .u64 (id:Int))) (first|exact H15.out _ BB.out|exact H15.out _ BB.out.drew|exact C3.out)
    (first
     |(go_at_call 81;(first|(with_reducible refine (OW.out _ BB.out.drew).mono ?_)|(with_reducible refine (OW.out _ BB.out).mono ?_));rintro e wo ⟨rfl,hb⟩;have BB:=Lib.hid hb;clear hb)
     |(go_at_call 82;(with_reducible refine (ST.out _ BB.out).mono ?_);rintro e w3 ⟨rfl,hc3,hnx⟩;have C3:=Lib.hid hc3;have NX:=Lib.hid hnx;clear hc3 hnx))
   obtain ⟨av,cap,c16,hv,hc1,hc2,hfin⟩:=NX.out;have V:=Lib.hid hv;have FIN:=Lib.hid hfin;clear hv hfin NX;go_wp2_with (at_builtin;refine bV (E:=Elem.ptrs) rfl (.tmp 48) (.tmp 50) 116 rfl 65 i0 (.pointer none) 8 Tryz.underlying116 hi hz0 hz1 hz2 rfl (.slice av n cap) (.slice (some ⟨w3.heap.size,0,none⟩) 1 1) Lp [Dr sp] rfl rfl (V.out.alloc _) (Seq.new w3 _ [Dr sp] 1) ?_ ?_ ?_;(rw [HL.out];simp only [maxLen,List.length_cons,List.length_nil];omega);(rw [HL.out];simp only [List.length_cons,List.length_nil];omega);intro v8 w8 EC J3 kF;obtain ⟨⟨y16,Yo⟩,Wi,ht⟩:=FIN.out w8 v8 (((aH.refl _ w3).alloc _).trans J3) EC (fun k hk=>(kF k hk).imp (fun x=>x) (fun x=>by rw [World.size_alloc] at x;omega));obtain ⟨a8,c8,e8,_,_⟩:=EC.slice';obtain ⟨n8,VJ⟩: ∃n8,(Lp++ [Dr sp]).length=n8:=⟨_,rfl⟩;rw [VJ] at e8;subst e8;clear VJ;have T8:=Lib.hid ht;clear EC J3 kF ht)
   go_ret;rw [HE0.out];exact ⟨rfl,T8.out⟩
 · have e0:cZ (aN B Q) A id=(aN B Q,(reserve A 1).2.1,(reserve A 1).2.2):=by unfold cZ;rw [if_pos hne]
   rw [e0];obtain ⟨x,hx⟩: ∃x,(reserve A 1).1=x:=⟨_,rfl⟩;obtain ⟨er,her⟩: ∃er,(reserve A 1).2.1=er:=⟨_,rfl⟩;obtain ⟨A2,hA2⟩: ∃A2,(reserve A 1).2.2=A2:=⟨_,rfl⟩;have RV:Hid (Calls Tryz.prog 16 #[.pointer (some ⟨q,0,none⟩), .int .i64 1] w fun e w'=>e= .returned (.tuple #[.int .i64 x, .int .i64 er])∧Turned C gI w h O id p g q own L B R w' (aN B Q) A2 fun L'=>L'=L):=Lib.hid ((jC z.env.ar 1 hr).mono fun e w' ⟨k1,⟨own',ia,hown⟩,u1⟩=>⟨by rw [k1,hx,her],by rw [←hA2];exact Jb hw z ia hl hS hown u1⟩);have t1:(er !=0)=true:=by rw [←her,bne_iff_ne];exact hne
   show Calls _ _ _ _ fun e w'=>e= .returned (.int .i64 (reserve A 1).2.1)∧Turned C gI w h O id p g q own L B R w' (aN B Q) (reserve A 1).2.2 fun L'=>L'=L;rw [her,hA2];clear hw z hr hne hl hS e0 hx her hA2;go_enter Tryz.func86,Tryz.ntmps86
   go_wp2_with fail
   refine RV.out.mono ?_;rintro e w1 ⟨rfl,ht⟩;have T1:=Lib.hid ht;clear ht c14;go_wp2;go_ret;exact ⟨rfl,T1.out⟩
theorem EG (w:World):Calls Tryz.prog 86 #[.pointer none] w fun e w'=>e= .returned (.int .i64 1)∧Below w.heap.size w w':=by
 go_enter Tryz.func86,Tryz.ntmps86
 go_wp2;go_ret;exact ⟨rfl,Below.refl _ _⟩
theorem Xf (w:World) {p q id:Nat} (h1:1≤id) (h2:id≤18446744073709551615):
 Calls Tryz.prog 17 #[.pointer (some ⟨p,0,none⟩), .pointer (some ⟨q,0,none⟩), .int .u64 (id:Int)] w fun e w'=> ∃h O,e= .returned (.tuple #[.pointer (some ⟨h,0,none⟩), .int .i64 0])∧gI w' h O id p q [] (fun _=>q0)∧(∀k,O k→w.heap.size≤k)∧Below w.heap.size w w':=by
 have t1:((id:Int)==0)=false:=by rw [beq_eq_false_iff_ne];omega
 go_enter Tryz.func17,Tryz.ntmps17
 go_wp2
 go_ret2
 refine ⟨w.heap.size,Vm w.heap.size (fun _ _=>False) (.slice none 0 0),rfl,⟨fun _=>none,fun _ _=>False, .slice none 0 0,⟨aV.new w _ _,fun i hi=> .inl ⟨rfl,rfl⟩,fun i hi x=>x,fun i hi k x=>x.elim,fun i hi x hx=>(by cases hx),fun i j _ _ _ k x=>x.elim,Vec.nil _,(by intro k hk;cases hk),h1,h2⟩,fun k=>Iff.rfl⟩,fun k hk=> ?_,(Below.refl _ _).alloc (Nat.le_refl _) _⟩;rcases hk with rfl|⟨i,_,x⟩|hk
 · exact Nat.le_refl _
 · exact x.elim
 · cases hk
end
end Go.Proofs.YtpibbcnkgdmcbaaGreatDoor
namespace Go.Proofs.YtpibbcnkgdmcbaaGreatDoor
open Go.RowKit aC aF aG aI au aD aB aA
theorem xQ (X:SG): ∀(l:List bY) (Q:Nat→QR) (o:bY),gQ Q X (l++ [o])=iV (gQ Q X l) (qi o.cls) (jD (gQ Q X l (qi o.cls)) (aD.keyOf X o))
 | [],Q,o=>by
   show (fun i=>if i=qi o.cls then jD (Q i) (aD.keyOf X o) else Q i)=_;funext i
   unfold iV;show _=if i=qi o.cls then jD (Q (qi o.cls)) (aD.keyOf X o) else Q i
   by_cases e:i=qi o.cls
   · rw [if_pos e,if_pos e,e]
   · rw [if_neg e,if_neg e]
 |u::t,Q,o=>by
  show gQ _ X (t++ [o])=_;rw [xQ X t];rfl
theorem O_ (S:QR) (k:Int):(jD S k).all.length≤S.all.length+1:=by
 unfold jD;have h1:=Pg (aX S [k]).1 [k];have h2:=xO S [k];have h3:([k]:List Int).length=1:=rfl;omega
theorem xP (X:SG): ∀(l:List bY) (Q:Nat→QR) (i:Nat),(gQ Q X l i).all.length≤(Q i).all.length+l.length
 | [],Q,i=>Nat.le_refl _
 |o::t,Q,i=>by
  have h:=xP X t (fun i=>if i=qi o.cls then jD (Q i) (aD.keyOf X o) else Q i) i;show (gQ _ X t i).all.length≤_;rw [List.length_cons];by_cases e:i=qi o.cls
  · simp only [if_pos e] at h
    have:=O_ (Q i) (aD.keyOf X o);omega
  · simp only [if_neg e] at h
    omega
section
variable {w0 ws w w' w1:World} {C:fH w0} {h id p g q:Nat} {O own own' T:Nat→Prop} {L L':List Nat} {A A':St} {B R l r R1 R2:List SB} {b:SB} {Q:Nat→QR}
theorem Cn (hn:((l++b::r).map fun b=>b.X.pl).Nodup):(l++b::r).find? (fun c=>decide ((c.X.pl:Int)=(b.X.pl:Int)))=some b:=by
 rw [List.map_append,List.map_cons,List.nodup_append] at hn;rw [List.find?_append,List.find?_eq_none.2 fun x hx=> ?_,List.find?_cons_of_pos (by simp)]
 · rfl
 · have:=hn.2.2 _ (List.mem_map.2 ⟨x,hx,rfl⟩) b.X.pl (List.mem_cons_self ..)
   simp only [decide_eq_true_eq];omega
theorem zQ (hw:Below w0.heap.size w0 w) (z:Hz C gI w h O id p g q own L A B R Q) {pl:Int} (hne: ∀b∈B,(b.X.pl:Int)≠pl):
 Calls Tryz.prog 95 #[.pointer (some ⟨h,0,none⟩), .int .i64 pl] w fun e w'=>e= .returned (.tuple #[.pointer none, .int .i64 5])∧Below w.heap.size w w':=by
 have AT:=Lib.hid (sW hw (Hr.of z) pl);rw [List.find?_eq_none.2 fun x hx=>by simpa using hne x hx] at AT;change Hid (Calls _ _ _ _ fun e w'=>e= .returned (.pointer none)∧_) at AT;clear hw z hne;go_enter Tryz.func95,Tryz.ntmps95
 go_wp2_with fail
 refine AT.out.mono ?_;rintro e w1 ⟨rfl,hb⟩;have B1:=Lib.hid hb;clear hb;go_wp2
 go_ret2
 exact ⟨rfl,B1.out⟩
theorem Qk (LY:Lay w0) (hw:Below w0.heap.size w0 w) (z:Hz C gI w h O id p g q own L A (l++b::r) R Q):
 Calls Tryz.prog 95 #[.pointer (some ⟨h,0,none⟩), .int .i64 (b.X.pl:Int)] w fun e w'=>e= .returned (.tuple #[.pointer (some ⟨b.sp,0,none⟩), .int .i64 0])∧ ∃O',Hz C gI w' h O' id p g q own L A (l++r) (b::R) (qJ (aN (l++b::r) Q) (b.X.pl:Int)).1.Q∧(∀k,O' k→O k∨w.heap.size≤k)∧aH O w w':=by
 have jL:b∈l++b::r:=List.mem_append_right _ (List.mem_cons_self ..);have Us:=(Hr.of z).jK;have AT:=Lib.hid (sW hw (Hr.of z) (b.X.pl:Int));rw [Cn Us] at AT;change Hid (Calls _ _ _ _ fun e w'=>e= .returned (.pointer (some ⟨b.sp,0,none⟩))∧_) at AT;have hfind:(aN (l++b::r) Q).B.find? (fun Y=>decide ((Y.pl:Int)=(b.X.pl:Int)))=some b.X:=by
  show ((l++b::r).map fun b=>b.X).find? _=_;rw [List.find?_map];have:=Cn Us;change (l++b::r).find? ((fun Y:SG=>decide ((Y.pl:Int)=(b.X.pl:Int)))∘fun b:SB=>b.X)=some b at this;rw [this];rfl
 have eL:(qJ (aN (l++b::r) Q) (b.X.pl:Int)).1=⟨(l++r).map fun b=>b.X,jB Q b.X b.X.L⟩:=by
  unfold qJ;rw [hfind];simp only [];exact oO (Ej Us) rfl
 have LO:=Lib.hid (fun w2 (hb:Below w.heap.size w w2)=>(En LY ((Hn.start (T:=O) hw (Hr.of z) fun k hk=>hk).grew hb) (fun i hi=>(kS z.good i).1) (fun i hi=>(kS z.good i).2)).mono fun e w' ⟨k1,O',n'⟩=>show e=Ending.returned (.tuple #[])∧ ∃O',Hz C gI w' h O' id p g q own L A (l++r) (b::R) (qJ (aN (l++b::r) Q) (b.X.pl:Int)).1.Q∧(∀k,O' k→O k∨w.heap.size≤k)∧aH O w w' from
  ⟨k1,O',(by
   have gg:=Ie z.good (b.X.pl:Int);rw [eL] at gg⊢;refine Hr.to (n'.congr fun i hi=> ?_).z gg;exact (QV z.good (List.mem_map.2 ⟨b,jL,rfl⟩) i).symm),n'.t,n'.u⟩)
 obtain ⟨sp,hsp⟩: ∃sp,b.sp=sp:=⟨_,rfl⟩;obtain ⟨pl,hpl⟩: ∃pl,b.X.pl=pl:=⟨_,rfl⟩;rw [hsp,hpl] at AT LO;rw [hsp,hpl];clear hw z jL Us hfind eL hsp hpl LY;go_enter Tryz.func95,Tryz.ntmps95
 go_wp2_with fail
 refine AT.out.mono ?_;rintro e w1 ⟨rfl,hb⟩;have K1:=Lib.hid (LO.out w1 hb);clear hb LO;go_wp2_with fail
 refine K1.out.mono ?_;rintro e w2 ⟨rfl,hz⟩;have Z2:=Lib.hid hz;clear hz;go_wp2
 go_ret2
 exact ⟨rfl,Z2.out⟩
theorem Ce (w:World) (h:Nat):Calls Tryz.prog 83 #[.pointer (some ⟨h,0,none⟩), .pointer none] w fun e w'=>e= .returned (.int .i64 1)∧Below w.heap.size w w':=by
 go_enter Tryz.func83,Tryz.ntmps83
 go_wp2;go_ret;exact ⟨rfl,Below.refl _ _⟩
theorem yJ (hw:Below w0.heap.size w0 w) (z:Hz C gI w h O id p g q own L A B R Q) (hb:b∈B):
 Calls Tryz.prog 83 #[.pointer (some ⟨h,0,none⟩), .pointer (some ⟨b.sp,0,none⟩)] w fun e w'=>e= .returned (.int .i64 6)∧Below w.heap.size w w':=by
 obtain ⟨l,r,rfl⟩:=List.append_of_mem hb;have PL:=Lib.hid (C.place w hw ((Hr.of z).sg hb));have AT:=Lib.hid (fun w2 (hb:Below w.heap.size w w2)=>sW (ah hw hw.size hb) ((Hr.of z).grew hb) (b.X.pl:Int));rw [Cn (Hr.of z).jK] at AT;change Hid (∀w2,_→Calls _ _ _ _ fun e w'=>e= .returned (.pointer (some ⟨b.sp,0,none⟩))∧_) at AT;obtain ⟨sp,hsp⟩: ∃sp,b.sp=sp:=⟨_,rfl⟩;obtain ⟨pl,hpl⟩: ∃pl,b.X.pl=pl:=⟨_,rfl⟩;rw [hsp,hpl] at AT PL;rw [hsp];clear hw z hb hsp hpl;go_enter Tryz.func83,Tryz.ntmps83
 go_wp2_with fail
 refine PL.out.mono ?_;rintro e w1 ⟨rfl,hb⟩;have B1:=Lib.hid hb;clear hb;go_wp2_with fail
 refine (AT.out w1 B1.out).mono ?_;rintro e w2 ⟨rfl,hb⟩;have B2:=Lib.hid (ah B1.out B1.out.size hb);clear hb;go_wp2;go_ret;exact ⟨rfl,B2.out⟩
theorem Seq.keep {α:Type} {E:Elem α} {T:Nat→Prop} {w w':World} {v:Value} {l:List α} (h:Seq E w v l) (hn:l= []∨ ∀k,In v k→ ¬T k) (u:aH T w w'):Seq E w' v l:=by
 rcases hn with rfl|hn
 · rcases h with ⟨b,off,cap,e,hc⟩|h
   · exact .inl ⟨b,off,cap,e,fun j u hj=>by simp [Elem.all] at hj⟩
   · exact .inr h
 · exact h.upd u hn
theorem Seq.XC {w:World} {a:Option Addr} {k cap:Nat} {l:List (Option Addr)} (h:Seq Elem.ptrs w (.slice a k cap) l):l= []∨ ∀x,In (.slice a k cap) x→x<w.heap.size:=by
 cases l with
 |nil=>exact .inl rfl
 |cons y t=>
  obtain ⟨b,off,rfl,hc⟩:=h.elem (i:=0) (x:=y) rfl;refine .inr fun x hx=> ?_;have e:=nu hx;subst e;exact World.block_lt_of_cell? w _ (hc 0 (.pointer y) rfl)
def AdR {w0:World} (C:fH w0) (w:World) (h:Nat) (O:Nat→Prop) (id p g q:Nat) (own:Nat→Prop) (L:List Nat) (A:St) (B R:List SB) (Q:Nat→QR) (X:SG) (v:Value) (i:Value) (wr:World):Prop:=
 ∃(t:Nat) (O1:Nat→Prop),t≤X.L.length∧i= .int .i64 (t:Int)∧Hn C w O wr h O1 id p g q own L A B R (gQ Q X (X.L.take t))∧Seq Elem.ptrs wr v (X.L.map fun o=>some ⟨o.op,0,none⟩)∧(X.L= []∨lD v O1 wr)
theorem Ql (LY:Lay w0) (hw:Below w0.heap.size w0 w) (z:Hz C gI w h O id p g q own L A B (R1++b::R2) Q):
 Calls Tryz.prog 83 #[.pointer (some ⟨h,0,none⟩), .pointer (some ⟨b.sp,0,none⟩)] w fun e w'=>e= .returned (.int .i64 0)∧ ∃O',Hz C gI w' h O' id p g q own L A (B++ [b]) (R1++R2) (uV (aN B Q) b.X).1.Q∧(∀k,O' k→O k∨w.heap.size≤k)∧aH O w w':=by
 have jL:b∈B++(R1++b::R2):=List.mem_append_right _ (List.mem_append_right _ (List.mem_cons_self ..));have hsb:=z.env.dJ.sg b jL;have hnp: ∀c∈B,c.X.pl≠b.X.pl:=fun c hc=>by
  have hn:=z.env.dJ.nd;rw [List.map_append,List.nodup_append] at hn;exact hn.2.2 _ (List.mem_map.2 ⟨c,hc,rfl⟩) _ (List.mem_map.2 ⟨b,List.mem_append_right _ (List.mem_cons_self ..),rfl⟩)
 have hnone:B.find? (fun c=>decide ((c.X.pl:Int)=(b.X.pl:Int)))=none:=List.find?_eq_none.2 fun x hx=>by
  have:=hnp x hx;simp only [decide_eq_true_eq];omega
 have PL:=Lib.hid (C.place w hw hsb);have AT:=Lib.hid (fun w2 (hb:Below w.heap.size w w2)=>sW (ah hw hw.size hb) ((Hr.of z).grew hb) (b.X.pl:Int));rw [hnone] at AT;change Hid (∀w2,_→Calls _ _ _ _ fun e w'=>e= .returned (.pointer none)∧_) at AT;have gX:GoodS b.X:=⟨hsb.good,hsb.pl,hsb.pps⟩;have eA:(uV (aN B Q) b.X).1=⟨(B++ [b]).map fun b=>b.X,gQ Q b.X b.X.L⟩:=by
  unfold uV;rw [if_neg (fun hc=>by
   obtain ⟨Y,hY,e⟩:=List.any_eq_true.1 hc;obtain ⟨c,hc,rfl⟩:=List.mem_map.1 hY;exact hnp c hc (by simpa using e))]
  refine oO ?_ ?_
  · show (aN B Q).B++ [b.X]=_
    rw [List.map_append];rfl
  · exact (Np z.good gX fun Y hY=>by
     obtain ⟨c,hc,rfl⟩:=List.mem_map.1 hY;exact hnp c hc).symm
 have gA:=Ig z.good gX;rw [eA] at gA⊢;have hperm:(B++(R1++b::R2)).Perm ((B++ [b])++(R1++R2)):=by
  rw [List.append_assoc];exact List.Perm.append_left B List.perm_middle
 have hlen:B.length≤64:=BJ (Hr.of z).jK fun b hb=>((Hr.of z).sg hb).pl;have hcount:=hsb.good.count;have n0:=Hn.start (T:=O) hw (Hr.of z) fun k hk=>hk;have PU:=Lib.hid (fun w2 (hb:Below w.heap.size w w2)=>by
  obtain ⟨a,cap,c16,hv,hc1,hc2,hre⟩:=(n0.grew hb).z.hp.push b;exact show ∃a cap,w2.cell? ⟨h,16,none⟩=some (.slice a B.length cap)∧Vec Elem.ptrs w2 (.slice a B.length cap) ((B.map fun b=>b.sp).map Dr)∧B.length≤cap∧cap≤9223372036854775807∧
   ∀w4 v',aH (In (.slice a B.length cap)) w2 w4→Vec Elem.ptrs w4 v' ((B.map fun b=>b.sp).map Dr++ [Dr b.sp])→(∀k,In v' k→In (.slice a B.length cap) k∨w2.heap.size≤k)→
    (∃y,w4.cell? ⟨h,16,none⟩=some y)∧w4.frozen? ⟨h,16,none⟩=false∧ ∃O',Hn C w O (w4.setCell ⟨h,16,none⟩ v') h O' id p g q own L A (B++ [b]) (R1++R2) Q from
   ⟨a,cap,c16,hv,hc1,hc2,fun w4 v' u4 hv4 Xl=>by
    obtain ⟨hy,hz,O',hp4,hO4,u5⟩:=hre w4 v' u4 hv4 Xl;exact ⟨hy,hz,O',(n0.grew hb).uZ hp4 hO4 u5 hperm⟩⟩)
 have pY:b∈B++ [b]:=List.mem_append_right _ (List.mem_singleton.2 rfl);have VY:Hid (∀w5 O5,Hn C w O w5 h O5 id p g q own L A (B++ [b]) (R1++R2) Q→Calls Tryz.prog 125 #[.pointer (some ⟨b.sp,0,none⟩)] w5 fun e w'=> ∃a k cap,e= .returned (.slice a k cap)∧k=b.X.L.length∧k≤cap∧cap≤9223372036854775807∧AdR C w h O id p g q own L A (B++ [b]) (R1++R2) Q b.X (.slice a k cap) (.int .i64 0) w'):=Lib.hid fun w5 O5 n5=>
  (C.pages w5 n5.b (n5.z.sg pY)).mono fun e w' ⟨a,k,cap,k1,k2,k3,k4,k5,k6⟩=>⟨a,k,cap,k1,by have:=k2.len;rw [List.length_map] at this;exact this,k3,k4,0,O5,Nat.zero_le _,rfl,n5.grew k6,k2,by
   rcases k2.XC with x|x
   · exact .inl (List.map_eq_nil_iff.1 x)
   · exact .inr fun k hk=>⟨fun ho=>by
      have:=n5.z.WQ (.inl ho);have:=k5 k hk;omega,x k hk⟩⟩
 have RD:Hid (∀wr O1 (t:Nat) (a:Option Addr) (k cap:Nat) (o:bY),b.X.L[t]? =some o→Hn C w O wr h O1 id p g q own L A (B++ [b]) (R1++R2) (gQ Q b.X (b.X.L.take t))→Seq Elem.ptrs wr (.slice a k cap) (b.X.L.map fun o=>some ⟨o.op,0,none⟩)→(b.X.L= []∨lD (.slice a k cap) O1 wr)→
  (∃bk off,a=some ⟨bk,off,none⟩∧wr.cell? ⟨bk,off+t,none⟩=some (.pointer (some ⟨o.op,0,none⟩)))∧(∀w2,Below wr.heap.size wr w2→w2.cell? ⟨o.op,1,none⟩=some (.int .i64 o.cls))∧
  (∀w2,Below wr.heap.size wr w2→Calls Tryz.prog 100 #[.pointer (some ⟨h,0,none⟩), .int .i64 o.cls] w2 fun e w'=>e= .returned (.pointer (some ⟨h,qi o.cls,none⟩))∧Below wr.heap.size wr w')∧
  ∀w2,Below wr.heap.size wr w2→Calls Tryz.prog 119 #[.pointer (some ⟨h,qi o.cls,none⟩), .pointer (some ⟨o.op,0,none⟩)] w2 fun e w'=>e= .returned (.tuple #[])∧w'.cell? ⟨o.op,1,none⟩=some (.int .i64 o.cls)∧AdR C w h O id p g q own L A (B++ [b]) (R1++R2) Q b.X (.slice a k cap) (.int .i64 ((t+1:Nat):Int)) w'):=Lib.hid fun wr O1 t a k cap o hot n1 Uo haw=>by
  have ho:=List.mem_of_getElem? hot;have ht:t<b.X.L.length:=(List.getElem?_eq_some_iff.1 hot).1;have hs1:=n1.z.sg pY;have hcl:=ze hs1.good ho;refine ⟨?_,fun w2 hb2=>((hs1.grew hb2).own o ho).cell 1,fun w2 hb2=>(uh (LY.below (ah n1.b n1.b.size hb2)) h hcl.1 hcl.2).mono fun e w' k=>⟨k.1,ah hb2 hb2.size k.2⟩,fun w2 hb2=> ?_⟩
  · obtain ⟨bk,off,ea,hc⟩:=Uo.elem (i:=t) (x:=some ⟨o.op,0,none⟩) (by rw [List.getElem?_map,hot];rfl)
    refine ⟨bk,off,ea, ?_⟩;have:=hc 0 (.pointer (some ⟨o.op,0,none⟩)) rfl
    simpa [Elem.ptrs] using this
  · refine (DJ (n1.grew hb2) pY ho fun i hi=> ?_).mono fun e w' ⟨e1,O',n',kO,kU⟩=> ?_
    · have h1:=xP b.X (b.X.L.take t) Q i
      have h2:=(kS z.good i).2;have h3:(b.X.L.take t).length≤15:=Nat.le_trans (List.length_take_le _ _) (by omega);change (Q i).all.length≤1024 at h2;omega
    · have hbg:=(ak hb2)
      have abq:=Uo.upd hbg fun _ _ x=>x;have EH:b.X.L= []∨lD (.slice a k cap) O1 w2:=haw.imp (fun x=>x) fun x=>x.grew hb2;refine ⟨e1,((n'.z.sg pY).own o ho).cell 1,t+1,O',ht,rfl, ?_,abq.keep (EH.imp (fun x=>by rw [x];rfl) fun x k hk=>(x k hk).1) kU,EH.imp (fun x=>x) fun x=>x.step kO kU⟩;rw [List.take_add_one,hot];show Hn C w O w' h O' id p g q own L A (B++ [b]) (R1++R2) (gQ Q b.X (b.X.L.take t++ [o]));rw [xQ];exact n'
 have FIN:Hid (∀wr O1,Hn C w O wr h O1 id p g q own L A (B++ [b]) (R1++R2) (gQ Q b.X b.X.L)→ ∃O',Hz C gI wr h O' id p g q own L A (B++ [b]) (R1++R2) (gQ Q b.X b.X.L)∧(∀k,O' k→O k∨w.heap.size≤k)∧aH O w wr):=Lib.hid fun wr O1 n1=>⟨O1,n1.z.to gA,n1.t,n1.u⟩;show Calls _ _ _ _ fun e w'=>e= .returned (.int .i64 0)∧ ∃O',Hz C gI w' h O' id p g q own L A (B++ [b]) (R1++R2) (gQ Q b.X b.X.L)∧(∀k,O' k→O k∨w.heap.size≤k)∧aH O w w';obtain ⟨sp,hsp⟩: ∃sp,b.sp=sp:=⟨_,rfl⟩;obtain ⟨pl,hpl⟩: ∃pl,b.X.pl=pl:=⟨_,rfl⟩;obtain ⟨m,hm⟩: ∃m,b.X.L.length=m:=⟨_,rfl⟩;obtain ⟨n,hn⟩: ∃n,B.length=n:=⟨_,rfl⟩;obtain ⟨Lp,Xp⟩: ∃Lp,(B.map fun b=>b.sp).map Dr=Lp:=⟨_,rfl⟩;have ZH:Lp.length=n:=by rw [←Xp,←hn];simp
 rw [hsp,hpl] at PL;rw [hpl] at AT;rw [hsp,Xp,hn] at PU;rw [hsp,hm] at VY;rw [hsp];rw [hn] at hlen;rw [hm] at hcount;have HM:=Lib.hid hm;have HL:=Lib.hid ZH;obtain ⟨i0,hi,hz0,hz1,hz2⟩:=info_parts Ht;clear hw z jL hsb hnp hnone gX eA gA hperm n0 pY hsp hpl hm hn Xp ZH;go_enter Tryz.func83,Tryz.ntmps83
 go_wp2_with fail
 refine PL.out.mono ?_;rintro e w1 ⟨rfl,hb⟩;have B1:=Lib.hid hb;clear hb;go_wp2_with fail
 refine (AT.out w1 B1.out).mono ?_;rintro e w2 ⟨rfl,hb⟩;obtain ⟨av,cap,c16,hv,hc1,hc2,hfin⟩:=PU.out w2 (ah B1.out B1.out.size hb);have V:=Lib.hid hv;have FN:=Lib.hid hfin;clear hb hv hfin PU;go_wp2_with (at_builtin;refine bV (E:=Elem.ptrs) rfl (.tmp 22) (.tmp 24) 116 rfl 65 i0 (.pointer none) 8 Tryz.underlying116 hi hz0 hz1 hz2 rfl (.slice av n cap) (.slice (some ⟨w2.heap.size,0,none⟩) 1 1) Lp [Dr sp] rfl rfl (V.out.alloc _) (Seq.new w2 _ [Dr sp] 1) ?_ ?_ ?_;(rw [HL.out];simp only [maxLen,List.length_cons,List.length_nil];omega);(rw [HL.out];simp only [List.length_cons,List.length_nil];omega);intro v8 w8 EC J3 kF;obtain ⟨⟨y16,Yo⟩,Wi,ht⟩:=FN.out w8 v8 (((aH.refl _ w2).alloc _).trans J3) EC (fun k hk=>(kF k hk).imp (fun x=>x) (fun x=>by rw [World.size_alloc] at x;omega));obtain ⟨a8,c8,e8,_,_⟩:=EC.slice';obtain ⟨n8,VJ⟩: ∃n8,(Lp++ [Dr sp]).length=n8:=⟨_,rfl⟩;rw [VJ] at e8;subst e8;clear VJ;have T8:=Lib.hid ht;clear EC J3 kF ht)
 obtain ⟨O8,VJ⟩:=T8.out;have K8:=Lib.hid (VY.out _ _ VJ);clear VJ T8 V FN;go_wp2_with fail
 refine K8.out.mono ?_;rintro e w9 ⟨a9,k9,c9,rfl,hk9,adW,hc9,hi⟩;subst hk9;have I1:=Lib.hid hi;clear hi K8;go_wp2;go_loopw [31] (fun i wr=>AdR C w h O id p g q own L A (B++ [b]) (R1++R2) Q b.X (.slice a9 k9 c9) i wr) (fun i _=>k9-(intOf i).toNat)
 case atStart=>exact I1.out
 case round=>
  clear I1;obtain ⟨t,O1,ht,rfl,hn1,Uo,haw⟩:=hrel;rw [HM.out] at ht;by_cases htn:t<k9
  · obtain ⟨o,hot⟩: ∃o,b.X.L[t]? =some o:=⟨_,List.getElem?_eq_getElem (by rw [HM.out];exact htn)⟩
    obtain ⟨⟨bk,off,ea,d0⟩,d1,hof,Me⟩:=RD.out wr O1 t a9 k9 c9 o hot hn1 Uo haw;subst ea;have t2:decide ((t:Int)<(k9:Int))=true:=decide_eq_true (by omega);have t2':decide (t<k9)=true:=decide_eq_true htn;have q3:(0:Int)≤(t:Int):=by omega
    have q4:(t:Int)<(k9:Int):=by omega
    rw [show ((t+1:Nat):Int)=(t:Int)+1 by omega] at Me;obtain ⟨op,hop⟩: ∃op,o.op=op:=⟨_,rfl⟩;obtain ⟨cls,hcls⟩: ∃cls,o.cls=cls:=⟨_,rfl⟩;rw [hop] at d0;rw [hop,hcls] at d1 Me;rw [hcls] at hof;have OF:=Lib.hid hof;have PU:=Lib.hid Me;have D1:=Lib.hid d1;have BB:=Lib.hid (Below.refl wr.heap.size wr);clear hn1 Uo haw hot hof Me d1 hop hcls RD;go_wp2;go_region_held3 (fun w'=>w'.cell? ⟨op,1,none⟩=some (.int .i64 cls)) (first|exact D1.out _ BB.out|exact D1.out _ BB.out.drew|exact C6.out)
     (first
      |(go_at_call 100;(first|(with_reducible refine (OF.out _ BB.out.drew).mono ?_)|(with_reducible refine (OF.out _ BB.out).mono ?_));rintro e w6 ⟨rfl,hb⟩;have BB:=Lib.hid hb;clear hb)
      |(go_at_call 119;(with_reducible refine (PU.out _ BB.out).mono ?_);rintro e w6 ⟨rfl,hc6,hnx⟩;have C6:=Lib.hid hc6;have NX:=Lib.hid hnx;clear hc6 hnx))
    go_wp2;go_roundw
    case rel=>exact NX.out
    case measure=>simp [intOf];omega
  · obtain rfl:t=k9:=by omega
    have t2:decide ((t:Int)<(t:Int))=false:=decide_eq_false (by omega);rw [show b.X.L.take t=b.X.L by rw [←HM.out];exact List.take_length ..] at hn1;have F9:=Lib.hid (FIN.out _ _ hn1);clear hn1 Uo haw;go_wp2;go_ret;exact ⟨rfl,F9.out⟩
end
end Go.Proofs.YtpibbcnkgdmcbaaGreatDoor
namespace Go.Proofs.YtpibbcnkgdmcbaaGreatDoor
open Go.RowKit aC aF aG aI au aD aB aA
section
variable {w0 ws w w' w1:World} {C:fH w0} {h id p g q:Nat} {O own own' T:Nat→Prop} {L L':List Nat} {A A':St} {B R l r R1 R2:List SB} {b:SB} {Q:Nat→QR}
theorem M7 {w:World} {a:Option Addr} {n cap:Nat} {l:List (Option Addr)} (hv:Vec Elem.ptrs w (.slice a n cap) l) (hl:l.length≤64):
 Calls Tryz.prog 135 #[.slice a n cap] w fun e w'=> ∃a' k' c',e= .returned (.slice a' k' c')∧Seq Elem.ptrs w' (.slice a' k' c') l∧k'≤c'∧c'≤9223372036854775807∧(∀b,In (.slice a' k' c') b→w.heap.size≤b)∧Below w.heap.size w w':=by
 have hq: ∀w,(binOp .eql 116 (.slice a n cap) (.slice none 0 0)).run Tryz.prog w= .ok (.bool a.isNone) w:=fun w=>Lib.run_eql_slice_nil w _ _ a n cap 0 0 Tryz.underlying116;cases a with
 |none=>
  have hl0:l= []:=by
   rcases hv with ⟨_,e⟩|⟨_,_,_,e,_⟩
   · exact e
   · cases e
  subst hl0;have hq': ∀w,(binOp .eql 116 (.slice none n cap) (.slice none 0 0)).run Tryz.prog w= .ok (.bool true) w:=hq;clear hv hl hq;go_enter Tryz.func135,Tryz.ntmps135
  go_wp2;go_ret;exact ⟨none,0,0,rfl,Seq.nil _,Nat.le_refl _,by decide,(by intro b hb;cases hb),Below.refl _ _⟩
 |some ad=>
  have hq': ∀w,(binOp .eql 116 (.slice (some ad) n cap) (.slice none 0 0)).run Tryz.prog w= .ok (.bool false) w:=hq;obtain ⟨i0,hi,hz0,hz1,hz2⟩:=info_parts Ht;have V:=Lib.hid hv;have HL:=Lib.hid hl;clear hv hl hq;go_enter Tryz.func135,Tryz.ntmps135
  go_wp2_with (at_builtin;refine bV (E:=Elem.ptrs) rfl (.tmp 5) (.tmp 6) 116 rfl 65 i0 (.pointer none) 8 Tryz.underlying116 hi hz0 hz1 hz2 rfl (.slice (some ⟨w.heap.size,0,none⟩) 0 0) (.slice (some ad) n cap) [] l rfl rfl (Vec.new w _) ((V.out.seq).alloc _) ?_ ?_ ?_;(have:=HL.out;simp only [maxLen,List.length_nil];omega);(have:=HL.out;simp only [List.length_nil];omega);intro v8 w8 EC J3 kF;obtain ⟨a8,c8,e8,hc8,hd8⟩:=EC.slice';have V8:=Lib.hid EC;have N8:=Lib.hid kF;have B8:=Lib.hid (((Below.refl _ w).alloc (Nat.le_refl _) (.cells #[] 65)).trans (J3.below (B:=w.heap.size) (fun k hk=>by have e:=nu hk;omega) (by rw [World.size_alloc];omega)));clear EC J3 kF)
  rw [List.nil_append] at e8 hc8 V8;subst e8;go_ret;refine ⟨a8,l.length,c8,rfl,V8.out.seq,hc8,hd8,fun b hb=> ?_,B8.out⟩
  · rcases N8.out b hb with x|x
    · have e:=nu x;omega
    · rw [World.size_alloc] at x;omega
theorem Ut (hw:Below w0.heap.size w0 w) (z:Hz C gI w h O id p g q own L A B R Q):
 Calls Tryz.prog 94 #[.pointer (some ⟨h,0,none⟩)] w fun e w'=> ∃a k cap,e= .returned (.slice a k cap)∧Seq Elem.ptrs w' (.slice a k cap) (B.map fun b=>some ⟨b.sp,0,none⟩)∧k≤cap∧cap≤9223372036854775807∧(∀b,In (.slice a k cap) b→w.heap.size≤b)∧Below w.heap.size w w':=by
 obtain ⟨v,c16,Wi,hv,hin,hre⟩:=z.hp.uZ;have hlen:B.length≤64:=BJ (Hr.of z).jK fun b hb=>((Hr.of z).sg hb).pl;obtain ⟨a,cap,rfl,h1,h2⟩:=hv.slice';have el:(((gM B).map fun s=>s.1).map fun s=>(some ⟨s,0,none⟩:Option Addr))=B.map fun b=>some ⟨b.sp,0,none⟩:=by rw [xD,List.map_map];rfl
 rw [el] at c16 hv;obtain ⟨n,hn⟩: ∃n,(B.map fun b=>(some ⟨b.sp,0,none⟩:Option Addr)).length=n:=⟨_,rfl⟩;rw [hn] at c16 hv;have K:=Lib.hid (M7 hv (by rw [List.length_map];exact hlen));clear hre hin Wi hv hw z el h1 hn;go_enter Tryz.func94,Tryz.ntmps94
 go_wp2_with fail
 refine K.out.mono ?_;rintro e w1 ⟨a',k',c',rfl,hr⟩;have HR:=Lib.hid hr;clear hr c16;go_wp2;go_ret;exact ⟨a',k',c',rfl,HR.out⟩
def oq (H:HS) (c:Int):List Nat:=if Yc c then (H.Q (qi c)).all.map Pv else []
theorem rQ {H:HS} {ds:List Int} {t:Nat} {c:Int} (h:ds[t]? =some c):fT H (ds.take (t+1))=fT H (ds.take t)++oq H c:=by
 unfold fT oq;rw [List.take_add_one,h,List.flatMap_append];simp
theorem qG {H:HS} (g:aO H) (c:Int):(oq H c).length≤1024:=by
 unfold oq;split
 · rw [List.length_map];exact q_len g _
 · exact Nat.zero_le _
theorem jE {H:HS} (g:aO H): ∀cs:List Int,(fT H cs).length≤cs.length*1024
 | []=>Nat.le_refl _
 |c::t=>by
  have h1:=jE g t;have h2:=qG g c;show (oq H c++fT H t).length≤_;rw [List.length_append,List.length_cons];omega
theorem Ni (LY:Lay w0) (hw:Below w0.heap.size w0 w) (z:Hz C gI w h O id p g q own L A B R Q) {c:Int} (hc:dH c) {w2:World} (hb2:Below w.heap.size w w2):
 Calls Tryz.prog 100 #[.pointer (some ⟨h,0,none⟩), .int .i64 c] w2 fun e w3=> ∃b o,e= .returned (.pointer (some ⟨b,o,none⟩))∧Below w2.heap.size w2 w3∧
  Calls Tryz.prog 101 #[.pointer (some ⟨b,o,none⟩)] w3 fun e2 w4=> ∃a k cap,∃l:List Int,e2= .returned (.slice a k cap)∧k=l.length∧iF w4 (.slice a k cap) l∧(∀x∈l,0≤x∧x≤1048576)∧oq (aN B Q) c=l.map (fun x=>x.toNat)∧k≤cap∧cap≤9223372036854775807∧(∀x,In (.slice a k cap) x→x<w4.heap.size∧w3.heap.size≤x)∧Below w3.heap.size w3 w4:=by
 by_cases hok: -1≤c∧c≤11
 · refine (uh (LY.below (ah hw hw.size hb2)) h hok.1 hok.2).mono fun e w3 ⟨e1,hb3⟩=>⟨h,qi c,e1,hb3, ?_⟩
   have hq:=Jy hok.1 hok.2;have n0:=(Hn.start (T:=O) hw (Hr.of z) fun k hk=>hk).grew (ah hb2 hb2.size hb3);obtain ⟨rr,OQ,k1,k2,k3,k4⟩:=n0.queue hq;have hk:=kS z.good (qi c);change (∀k∈(Q (qi c)).all,0≤k∧k≤1023)∧(Q (qi c)).all.length≤1024 at hk;refine (Gy w3 k1 (by rw [mJ,List.length_map];show _≤1000000;omega)).mono fun e2 w4 ⟨v,e2',⟨ha,hv⟩,hin,hb4⟩=> ?_;obtain ⟨a,cap,rfl,h1,h2⟩:=ha.out;refine ⟨a,_,cap,(up (Q (qi c))).all,e2',rfl,ha,fun x hx=> ?_, ?_,h1,h2,fun x hx=>⟨hv.lt hx,hin x hx⟩,hb4⟩
   · rw [mJ] at hx
     obtain ⟨y,hy,rfl⟩:=List.mem_map.1 hx;have:=hk.1 y hy;exact ⟨by show 0≤y*1024;omega,by show y*1024≤1048576;omega⟩
   · have e3:Yc c=true:=by unfold Yc;simp [hok.1,hok.2]
     unfold oq;rw [if_pos e3,mJ,List.map_map];refine List.map_congr_left fun y hy=> ?_;have:=hk.1 y hy;show y.toNat*1024=(y*1024).toNat;omega
 · refine (TY (LY.below (ah hw hw.size hb2)) h hc (by omega)).mono fun e w3 ⟨b,e1,hbb,hB,hb3⟩=>⟨b,0,e1,hb3, ?_⟩
   have hq:o_ w3 b 0 none (fun _=>False) q0:=⟨⟨_,_,hB,rfl⟩, .inl ⟨rfl,rfl⟩,fun x=>x,fun k x=>x.elim,fun x hx=>by cases hx⟩;refine (Gy w3 hq (by decide)).mono fun e2 w4 ⟨v,e2',⟨ha,hv⟩,hin,hb4⟩=> ?_;obtain ⟨a,cap,rfl,h1,h2⟩:=ha.out;refine ⟨a,_,cap, [],e2',rfl,ha,fun x hx=>(by cases hx), ?_,h1,h2,fun x hx=>⟨hv.lt hx,hin x hx⟩,hb4⟩;have e3:Yc c=false:=by unfold Yc;simp;omega
   unfold oq;rw [if_neg (by rw [e3];simp)];rfl
def Yr (w:World) (H:HS) (ds:List Int) (v acc i:Value) (wr:World):Prop:=
 ∃t:Nat,t≤ds.length∧i= .int .i64 (t:Int)∧iF wr v ds∧Vec Elem.jl wr acc (fT H (ds.take t))∧(∀k,In acc k→w.heap.size≤k)∧(ds= []∨ ∀k,In v k→k<wr.heap.size∧ ¬In acc k)∧Below w.heap.size w wr
def Yt (w:World) (H:HS) (ds:List Int) (v:Value) (t:Nat) (v2:Value) (l:List Int) (acc i:Value) (wr:World):Prop:=
 ∃j:Nat,j≤l.length∧i= .int .i64 (j:Int)∧iF wr v ds∧iF wr v2 l∧Vec Elem.jl wr acc (fT H (ds.take t)++(l.take j).map fun x=>x.toNat)∧(∀k,In acc k→w.heap.size≤k)∧(ds= []∨ ∀k,In v k→k<wr.heap.size∧ ¬In acc k)∧(∀k,In v2 k→k<wr.heap.size∧ ¬In acc k)∧Below w.heap.size w wr
end
end Go.Proofs.YtpibbcnkgdmcbaaGreatDoor
namespace Go.Proofs.YtpibbcnkgdmcbaaGreatDoor
open Go.RowKit aC aF aG aI au aD aB aA
section
variable {w0 ws w w' w1:World} {C:fH w0} {h id p g q:Nat} {O own own' T:Nat→Prop} {L L':List Nat} {A A':St} {B R l r R1 R2:List SB} {b:SB} {Q:Nat→QR}
theorem Qi (LY:Lay w0) (hw:Below w0.heap.size w0 w) (z:Hz C gI w h O id p g q own L A B R Q) {v:Value} {cs:List Int} (hv:iF w v cs) (hl:cs.length≤1000):
 Calls Tryz.prog 59 #[.pointer (some ⟨h,0,none⟩),v] w fun e w'=> ∃a k cap,e= .returned (.slice a k cap)∧Seq Elem.jl w' (.slice a k cap) (iD (aN B Q) cs)∧k≤cap∧cap≤9223372036854775807∧(∀b,In (.slice a k cap) b→w.heap.size≤b)∧Below w.heap.size w w':=by
 obtain ⟨i0,hi,hz0,hz1,hz2⟩:=info_parts Ul;obtain ⟨av,cv,rfl,abG,ad4⟩:=hv.out;have AP:=Lib.hid (fun c (hc:dH c) w2 (hb:Below w.heap.size w w2)=>Ni LY hw z hc hb);have GD:=Lib.hid z.good;obtain ⟨H,hH⟩: ∃H,aN B Q=H:=⟨_,rfl⟩;rw [hH] at AP GD⊢;by_cases hcs:cs= []
 · subst hcs
   have EV:=Lib.hid (AY w);have hpg:iD H []=fT H nG:=rfl;rw [hpg];obtain ⟨D,hD⟩: ∃D,nG=D:=⟨_,rfl⟩;rw [hD] at EV⊢;have DL:=Lib.hid (show D.length=13 by rw [←hD];rfl);have D64:=Lib.hid (show ∀x∈D,gy x by rw [←hD];exact Ko);clear hw z hv hl LY hH hpg hD;go_enter Tryz.func59,Tryz.ntmps59
   go_wp2_with fail
   refine EV.out.mono ?_;rintro e w1 ⟨v1,rfl,hv1,hin1,hb1⟩;have p8:=hv1.arr D64.out;obtain ⟨a1,c1,rfl,hc1,hc2⟩:=p8.out;rw [DL.out] at hc1 p8 hv1 hin1⊢;obtain ⟨n,hn⟩: ∃n,(13:Nat)=n:=⟨_,rfl⟩;rw [hn] at hc1 p8 hv1 hin1 DL⊢;have Xh:n≤1000:=by omega
   have I0:=Lib.hid (show Yr w H D (.slice a1 n c1) (.slice none 0 0) (.int .i64 0) w1 from ⟨0,Nat.zero_le _,rfl,p8,Vec.nil _,(by intro k hk;cases hk), .inr fun k hk=>⟨hv1.lt hk,fun x=>by cases x⟩,hb1⟩);clear p8 hv1 hin1 hb1 hn;go_wp2;go_loopw [5,18] (fun acc i wr=>Yr w H D (.slice a1 n c1) acc i wr) (fun _ i _=>n-(intOf i).toNat)
   case atStart=>exact I0.out
   case round=>
    clear I0;obtain ⟨t,ht,rfl,p8,hacc,jd,hsep,hb⟩:=hrel;rw [DL.out] at ht;by_cases htn:t<n
    · obtain ⟨bk,off,y,ea,hy,hym,qK,d0⟩:=p8.at (t:=t) (by rw [DL.out];exact htn)
      subst ea;have K1:=AP.out y ⟨qK.1,qK.2⟩ wr hb;have t2:decide ((t:Int)<(n:Int))=true:=decide_eq_true (by omega);have t2':decide (t<n)=true:=decide_eq_true htn;have q3:(0:Int)≤(t:Int):=by omega
      have q4:(t:Int)<(n:Int):=by omega
      obtain ⟨aa,ca,rfl,Ch,Qs⟩:=hacc.slice';have yH:=jE GD.out (D.take t);have htake:(D.take t).length≤1000:=Nat.le_trans (List.length_take_le _ _) (by omega);obtain ⟨P,hP⟩: ∃P,fT H (D.take t)=P:=⟨_,rfl⟩;rw [hP] at hacc jd hsep Ch yH⊢;obtain ⟨np,hnp⟩: ∃np,P.length=np:=⟨_,rfl⟩;rw [hnp] at hacc jd hsep Ch yH⊢;have I1:Hid (∀w3 w4 a k cap (l:List Int),Below wr.heap.size wr w3→iF w4 (.slice a k cap) l→(∀x,In (.slice a k cap) x→x<w4.heap.size∧w3.heap.size≤x)→Below w3.heap.size w3 w4→Yt w H D (.slice (some ⟨bk,off,none⟩) n c1) t (.slice a k cap) l (.slice aa np ca) (.int .i64 0) w4):=Lib.hid fun w3 w4 a k cap l h1 h2 h3 h4=>by
       have h5:=ah h1 h1.size h4;have Xj: ∀k,In (.slice aa np ca) k→k<wr.heap.size:=fun k hk=>hacc.lt hk;refine ⟨0,Nat.zero_le _,rfl,p8.grew h5,h2, ?_,jd,hsep.imp (fun x=>x) fun x k hk=>⟨Nat.lt_of_lt_of_le (x k hk).1 h5.size,(x k hk).2⟩,fun k hk=>⟨(h3 k hk).1,fun ha=> ?_⟩,ah hb hb.size h5⟩
       · rw [hP]
         have h6:=hacc.upd (ak h5) fun _ _ x=>x
         simpa using h6
       · have:=(h3 k hk).2
         have:=Xj k ha;have:=h1.size;omega
      have HY:=Lib.hid hy;have HP:=Lib.hid hP;have HNP:=Lib.hid hnp;have HPL:=Lib.hid (show np≤1024000 by omega);have KK:=Lib.hid K1;have BW:=Lib.hid hb;clear p8 hacc jd hsep hb hy hym qK K1 hP hnp yH htake;go_wp2_with fail
      refine KK.out.mono ?_;rintro e w3 ⟨qb,qo,rfl,hb3,hal⟩;have B3:=Lib.hid hb3;have AL:=Lib.hid hal;clear hb3 hal KK d0;go_wp2_with fail
      refine AL.out.mono ?_;rintro e w4 ⟨a2,m,c2,l,rfl,hm,ha2,hr2,Hy,hm1,hm2,hin2,hb4⟩;have I2:=Lib.hid (I1.out w3 w4 a2 m c2 l B3.out ha2 hin2 hb4);have HR:=Lib.hid hr2;have XV:=Lib.hid Hy;have Vo:=Lib.hid hm;have Xi:m≤1024:=by
       have h1:=qG GD.out y;rw [Hy,List.length_map] at h1;omega
      clear ha2 hr2 Hy hm hin2 hb4 AL I1 B3;go_wp2;go_loopw [5,31] (fun acc i wr=>Yt w H D (.slice (some ⟨bk,off,none⟩) n c1) t (.slice a2 m c2) l acc i wr) (fun _ i _=>m-(intOf i).toNat)
      case atStart=>exact I2.out
      case round=>
       clear I2 BW HNP;obtain ⟨j,hj,rfl,p8,ha2,hacc,jd,hsep,l7,hb⟩:=hrel;rw [←Vo.out] at hj;by_cases hjm:j<m
       · obtain ⟨bk2,off2,x,ea,hx,hxm,fM,d2⟩:=ha2.at (t:=j) (by rw [←Vo.out];exact hjm)
         subst ea;obtain ⟨xn,hxn⟩:=Int.eq_ofNat_of_zero_le (HR.out x hxm).1;have abk:xn≤1048576:=by have:=(HR.out x hxm).2;omega
         subst hxn;have t4:decide ((j:Int)<(m:Int))=true:=decide_eq_true (by omega);have t4':decide (j<m)=true:=decide_eq_true hjm;have q5:(0:Int)≤(j:Int):=by omega
         have q6:(j:Int)<(m:Int):=by omega
         have wX:IntKind.u64.wrap (xn:Int)=(xn:Int):=IntWalk.u64_in _ ⟨by omega,by omega⟩;obtain ⟨ab,cb,rfl,Qr,abI⟩:=hacc.slice';obtain ⟨P2,hP2⟩: ∃P2,fT H (D.take t)++(l.take j).map (fun x=>x.toNat)=P2:=⟨_,rfl⟩;obtain ⟨n2,hn2⟩: ∃n2,P2.length=n2:=⟨_,rfl⟩;have abz:n2≤1025024:=by
          rw [←hn2,←hP2,List.length_append,List.length_map];have h1:=jE GD.out (D.take t);have h2:(D.take t).length≤1000:=Nat.le_trans (List.length_take_le _ _) (by have:=DL.out;omega);have h3:(l.take j).length≤j:=List.length_take_le _ _;omega
         rw [hP2] at hacc jd hsep l7 Qr⊢;rw [hn2] at hacc jd hsep l7 Qr⊢;have NX:Hid (∀w8 v8,Vec Elem.jl w8 v8 (P2++ [xn])→aH (In (.slice ab n2 cb)) (wr.alloc (.cells #[.int .u64 (xn:Int)] 22)) w8→(∀k,In v8 k→In (.slice ab n2 cb) k∨(wr.alloc (.cells #[.int .u64 (xn:Int)] 22)).heap.size≤k)→Yt w H D (.slice (some ⟨bk,off,none⟩) n c1) t (.slice (some ⟨bk2,off2,none⟩) m c2) l v8 (.int .i64 ((j+1:Nat):Int)) w8):=Lib.hid fun w8 v8 h1 h2 h3=>by
          have u8:=((aH.refl (In (.slice ab n2 cb)) wr).alloc (.cells #[.int .u64 (xn:Int)] 22)).trans h2;have hsz:wr.heap.size≤(wr.alloc (.cells #[.int .u64 (xn:Int)] 22)).heap.size:=by rw [World.size_alloc];omega
          have hnew: ∀{v':Value},(∀k,In v' k→k<wr.heap.size∧ ¬In (.slice ab n2 cb) k)→ ∀k,In v' k→k<w8.heap.size∧ ¬In v8 k:=fun hh k hk=>⟨Nat.lt_of_lt_of_le (hh k hk).1 u8.size,fun h9=>by
           rcases h3 k h9 with x|x
           · exact (hh k hk).2 x
           · have:=(hh k hk).1;omega⟩
          refine ⟨j+1,by rw [←Vo.out];exact hjm,rfl,p8.Dh u8 (hsep.imp (fun x=>x) fun x k hk=>(x k hk).2),ha2.upd u8 (fun k hk=>(l7 k hk).2), ?_,fun k hk=> ?_,hsep.imp (fun x=>x) fun x=>hnew x,hnew l7,hb.trans (u8.below jd hb.size)⟩
          · rw [List.take_add_one,hx,List.map_append,←List.append_assoc,hP2]
            exact h1
          · rcases h3 k hk with x|x
            · exact jd k x
            · have:=hb.size;omega
         rw [show ((j+1:Nat):Int)=(j:Int)+1 by omega] at NX;have V:=Lib.hid hacc;have XW:=Lib.hid hn2;clear p8 ha2 hacc jd hsep l7 hb hx hxm fM hP2 hn2;go_wp2_with (at_builtin;refine bV (E:=Elem.jl) rfl (.tmp 35) (.tmp 38) 75 rfl 22 i0 (.int .u64 0) 8 Tryz.underlying75 hi hz0 hz1 hz2 rfl (.slice ab n2 cb) (.slice (some ⟨wr.heap.size,0,none⟩) 1 1) P2 [xn] rfl rfl (V.out.alloc _) (tX wr _ xn _ rfl) ?_ ?_ ?_;(rw [XW.out];simp only [maxLen,List.length_cons,List.length_nil];omega);(rw [XW.out];simp only [List.length_cons,List.length_nil];omega);intro v8 w8 EC J3 kF;have K8:=Lib.hid (NX.out w8 v8 EC J3 kF);clear EC J3 kF)
         go_roundw
         case rel=>exact K8.out
         case measure=>simp [intOf];omega
       · obtain rfl:j=m:=by omega
         have t4:decide ((j:Int)<(j:Int))=false:=decide_eq_false (by omega);rw [show l.take j=l by rw [Vo.out];exact List.take_length ..,←XV.out,←rQ HY.out] at hacc;have NX:Hid (Yr w H D (.slice (some ⟨bk,off,none⟩) n c1) u5 (.int .i64 ((t+1:Nat):Int)) wr):=Lib.hid ⟨t+1,by rw [DL.out];exact htn,rfl,p8,hacc,jd,hsep,hb⟩;rw [show ((t+1:Nat):Int)=(t:Int)+1 by omega] at NX;clear p8 ha2 hacc jd hsep l7 hb;go_wp2;go_roundw
         case rel=>exact NX.out
         case measure=>simp [intOf];omega
    · obtain rfl:t=n:=by omega
      have t2:decide ((t:Int)<(t:Int))=false:=decide_eq_false (by omega);rw [show D.take t=D by rw [←DL.out];exact List.take_length ..] at hacc;obtain ⟨aa,ca,rfl,Ch,Qs⟩:=hacc.slice';have F:=Lib.hid (And.intro hacc.seq (And.intro Ch (And.intro Qs (And.intro jd hb))));clear p8 hacc jd hsep hb;go_wp2;go_ret;exact ⟨_,_,_,rfl,F.out.1,F.out.2.1,F.out.2.2.1,F.out.2.2.2.1,F.out.2.2.2.2⟩
 · have hpg:iD H cs=fT H cs:=by unfold iD;rw [if_neg hcs]
   rw [hpg];obtain ⟨n,hn⟩: ∃n,cs.length=n:=⟨_,rfl⟩;have hn0:n≠0:=by rw [←hn];intro e;exact hcs (List.length_eq_zero_iff.1 e)
   rw [hn] at hv hl abG⊢;have t0:((n:Int)==0)=false:=by rw [beq_eq_false_iff_ne];omega
   have DL:=Lib.hid hn;obtain ⟨D,hD⟩: ∃D,cs=D:=⟨_,rfl⟩;subst hD;obtain ⟨D,rfl⟩: ∃D,cs=D:=⟨_,rfl⟩;have Xh:n≤1000:=hl;obtain ⟨a1,rfl⟩: ∃a1,av=a1:=⟨_,rfl⟩;obtain ⟨c1,rfl⟩: ∃c1,cv=c1:=⟨_,rfl⟩;have hlt:cs= []∨ ∀k,In (.slice av n cv) k→k<w.heap.size:=hv.lt;have I0:=Lib.hid (show Yr w H cs (.slice av n cv) (.slice none 0 0) (.int .i64 0) w from ⟨0,Nat.zero_le _,rfl,hv,Vec.nil _,(by intro k hk;cases hk),hlt.imp (fun x=>x) fun x k hk=>⟨x k hk,fun y=>by cases y⟩,Below.refl _ _⟩);clear hw z hv hl LY hH hpg hcs hn hlt;go_enter Tryz.func59,Tryz.ntmps59
   go_wp2;go_loopw [5,18] (fun acc i wr=>Yr w H cs (.slice av n cv) acc i wr) (fun _ i _=>n-(intOf i).toNat)
   case atStart=>exact I0.out
   case round=>
    clear I0;obtain ⟨t,ht,rfl,p8,hacc,jd,hsep,hb⟩:=hrel;rw [DL.out] at ht;by_cases htn:t<n
    · obtain ⟨bk,off,y,ea,hy,hym,qK,d0⟩:=p8.at (t:=t) (by rw [DL.out];exact htn)
      subst ea;have K1:=AP.out y ⟨qK.1,qK.2⟩ wr hb;have t2:decide ((t:Int)<(n:Int))=true:=decide_eq_true (by omega);have t2':decide (t<n)=true:=decide_eq_true htn;have q3:(0:Int)≤(t:Int):=by omega
      have q4:(t:Int)<(n:Int):=by omega
      obtain ⟨aa,ca,rfl,Ch,Qs⟩:=hacc.slice';have yH:=jE GD.out (cs.take t);have htake:(cs.take t).length≤1000:=Nat.le_trans (List.length_take_le _ _) (by omega);obtain ⟨P,hP⟩: ∃P,fT H (cs.take t)=P:=⟨_,rfl⟩;rw [hP] at hacc jd hsep Ch yH⊢;obtain ⟨np,hnp⟩: ∃np,P.length=np:=⟨_,rfl⟩;rw [hnp] at hacc jd hsep Ch yH⊢;have I1:Hid (∀w3 w4 a k cap (l:List Int),Below wr.heap.size wr w3→iF w4 (.slice a k cap) l→(∀x,In (.slice a k cap) x→x<w4.heap.size∧w3.heap.size≤x)→Below w3.heap.size w3 w4→Yt w H cs (.slice (some ⟨bk,off,none⟩) n cv) t (.slice a k cap) l (.slice aa np ca) (.int .i64 0) w4):=Lib.hid fun w3 w4 a k cap l h1 h2 h3 h4=>by
       have h5:=ah h1 h1.size h4;have Xj: ∀k,In (.slice aa np ca) k→k<wr.heap.size:=fun k hk=>hacc.lt hk;refine ⟨0,Nat.zero_le _,rfl,p8.grew h5,h2, ?_,jd,hsep.imp (fun x=>x) fun x k hk=>⟨Nat.lt_of_lt_of_le (x k hk).1 h5.size,(x k hk).2⟩,fun k hk=>⟨(h3 k hk).1,fun ha=> ?_⟩,ah hb hb.size h5⟩
       · rw [hP]
         have h6:=hacc.upd (ak h5) fun _ _ x=>x
         simpa using h6
       · have:=(h3 k hk).2
         have:=Xj k ha;have:=h1.size;omega
      have HY:=Lib.hid hy;have HP:=Lib.hid hP;have HNP:=Lib.hid hnp;have HPL:=Lib.hid (show np≤1024000 by omega);have KK:=Lib.hid K1;have BW:=Lib.hid hb;clear p8 hacc jd hsep hb hy hym qK K1 hP hnp yH htake;go_wp2_with fail
      refine KK.out.mono ?_;rintro e w3 ⟨qb,qo,rfl,hb3,hal⟩;have B3:=Lib.hid hb3;have AL:=Lib.hid hal;clear hb3 hal KK d0;go_wp2_with fail
      refine AL.out.mono ?_;rintro e w4 ⟨a2,m,c2,l,rfl,hm,ha2,hr2,Hy,hm1,hm2,hin2,hb4⟩;have I2:=Lib.hid (I1.out w3 w4 a2 m c2 l B3.out ha2 hin2 hb4);have HR:=Lib.hid hr2;have XV:=Lib.hid Hy;have Vo:=Lib.hid hm;have Xi:m≤1024:=by
       have h1:=qG GD.out y;rw [Hy,List.length_map] at h1;omega
      clear ha2 hr2 Hy hm hin2 hb4 AL I1 B3;go_wp2;go_loopw [5,31] (fun acc i wr=>Yt w H cs (.slice (some ⟨bk,off,none⟩) n cv) t (.slice a2 m c2) l acc i wr) (fun _ i _=>m-(intOf i).toNat)
      case atStart=>exact I2.out
      case round=>
       clear I2 BW HNP;obtain ⟨j,hj,rfl,p8,ha2,hacc,jd,hsep,l7,hb⟩:=hrel;rw [←Vo.out] at hj;by_cases hjm:j<m
       · obtain ⟨bk2,off2,x,ea,hx,hxm,fM,d2⟩:=ha2.at (t:=j) (by rw [←Vo.out];exact hjm)
         subst ea;obtain ⟨xn,hxn⟩:=Int.eq_ofNat_of_zero_le (HR.out x hxm).1;have abk:xn≤1048576:=by have:=(HR.out x hxm).2;omega
         subst hxn;have t4:decide ((j:Int)<(m:Int))=true:=decide_eq_true (by omega);have t4':decide (j<m)=true:=decide_eq_true hjm;have q5:(0:Int)≤(j:Int):=by omega
         have q6:(j:Int)<(m:Int):=by omega
         have wX:IntKind.u64.wrap (xn:Int)=(xn:Int):=IntWalk.u64_in _ ⟨by omega,by omega⟩;obtain ⟨ab,cb,rfl,Qr,abI⟩:=hacc.slice';obtain ⟨P2,hP2⟩: ∃P2,fT H (cs.take t)++(l.take j).map (fun x=>x.toNat)=P2:=⟨_,rfl⟩;obtain ⟨n2,hn2⟩: ∃n2,P2.length=n2:=⟨_,rfl⟩;have abz:n2≤1025024:=by
          rw [←hn2,←hP2,List.length_append,List.length_map];have h1:=jE GD.out (cs.take t);have h2:(cs.take t).length≤1000:=Nat.le_trans (List.length_take_le _ _) (by have:=DL.out;omega);have h3:(l.take j).length≤j:=List.length_take_le _ _;omega
         rw [hP2] at hacc jd hsep l7 Qr⊢;rw [hn2] at hacc jd hsep l7 Qr⊢;have NX:Hid (∀w8 v8,Vec Elem.jl w8 v8 (P2++ [xn])→aH (In (.slice ab n2 cb)) (wr.alloc (.cells #[.int .u64 (xn:Int)] 22)) w8→(∀k,In v8 k→In (.slice ab n2 cb) k∨(wr.alloc (.cells #[.int .u64 (xn:Int)] 22)).heap.size≤k)→Yt w H cs (.slice (some ⟨bk,off,none⟩) n cv) t (.slice (some ⟨bk2,off2,none⟩) m c2) l v8 (.int .i64 ((j+1:Nat):Int)) w8):=Lib.hid fun w8 v8 h1 h2 h3=>by
          have u8:=((aH.refl (In (.slice ab n2 cb)) wr).alloc (.cells #[.int .u64 (xn:Int)] 22)).trans h2;have hsz:wr.heap.size≤(wr.alloc (.cells #[.int .u64 (xn:Int)] 22)).heap.size:=by rw [World.size_alloc];omega
          have hnew: ∀{v':Value},(∀k,In v' k→k<wr.heap.size∧ ¬In (.slice ab n2 cb) k)→ ∀k,In v' k→k<w8.heap.size∧ ¬In v8 k:=fun hh k hk=>⟨Nat.lt_of_lt_of_le (hh k hk).1 u8.size,fun h9=>by
           rcases h3 k h9 with x|x
           · exact (hh k hk).2 x
           · have:=(hh k hk).1;omega⟩
          refine ⟨j+1,by rw [←Vo.out];exact hjm,rfl,p8.Dh u8 (hsep.imp (fun x=>x) fun x k hk=>(x k hk).2),ha2.upd u8 (fun k hk=>(l7 k hk).2), ?_,fun k hk=> ?_,hsep.imp (fun x=>x) fun x=>hnew x,hnew l7,hb.trans (u8.below jd hb.size)⟩
          · rw [List.take_add_one,hx,List.map_append,←List.append_assoc,hP2]
            exact h1
          · rcases h3 k hk with x|x
            · exact jd k x
            · have:=hb.size;omega
         rw [show ((j+1:Nat):Int)=(j:Int)+1 by omega] at NX;have V:=Lib.hid hacc;have XW:=Lib.hid hn2;clear p8 ha2 hacc jd hsep l7 hb hx hxm fM hP2 hn2;go_wp2_with (at_builtin;refine bV (E:=Elem.jl) rfl (.tmp 35) (.tmp 38) 75 rfl 22 i0 (.int .u64 0) 8 Tryz.underlying75 hi hz0 hz1 hz2 rfl (.slice ab n2 cb) (.slice (some ⟨wr.heap.size,0,none⟩) 1 1) P2 [xn] rfl rfl (V.out.alloc _) (tX wr _ xn _ rfl) ?_ ?_ ?_;(rw [XW.out];simp only [maxLen,List.length_cons,List.length_nil];omega);(rw [XW.out];simp only [List.length_cons,List.length_nil];omega);intro v8 w8 EC J3 kF;have K8:=Lib.hid (NX.out w8 v8 EC J3 kF);clear EC J3 kF)
         go_roundw
         case rel=>exact K8.out
         case measure=>simp [intOf];omega
       · obtain rfl:j=m:=by omega
         have t4:decide ((j:Int)<(j:Int))=false:=decide_eq_false (by omega);rw [show l.take j=l by rw [Vo.out];exact List.take_length ..,←XV.out,←rQ HY.out] at hacc;have NX:Hid (Yr w H cs (.slice (some ⟨bk,off,none⟩) n cv) u5 (.int .i64 ((t+1:Nat):Int)) wr):=Lib.hid ⟨t+1,by rw [DL.out];exact htn,rfl,p8,hacc,jd,hsep,hb⟩;rw [show ((t+1:Nat):Int)=(t:Int)+1 by omega] at NX;clear p8 ha2 hacc jd hsep l7 hb;go_wp2;go_roundw
         case rel=>exact NX.out
         case measure=>simp [intOf];omega
    · obtain rfl:t=n:=by omega
      have t2:decide ((t:Int)<(t:Int))=false:=decide_eq_false (by omega);rw [show cs.take t=cs by rw [←DL.out];exact List.take_length ..] at hacc;obtain ⟨aa,ca,rfl,Ch,Qs⟩:=hacc.slice';have F:=Lib.hid (And.intro hacc.seq (And.intro Ch (And.intro Qs (And.intro jd hb))));clear p8 hacc jd hsep hb;go_wp2;go_ret;exact ⟨_,_,_,rfl,F.out.1,F.out.2.1,F.out.2.2.1,F.out.2.2.2.1,F.out.2.2.2.2⟩
end
end Go.Proofs.YtpibbcnkgdmcbaaGreatDoor
namespace Go.Proofs.YtpibbcnkgdmcbaaGreatDoor
open Go.RowKit aC aF aG aI au aD aB aA
def hpc (w0:World) (LY:Lay w0) (C:fH w0):kW w0 C where
 Hp:=gI
 Gi h e:=h.Gi e
 upd h u hT:=h.upd u hT
 num h:=h.num
 new w _ {p q id} h1 h2:=Xf w h1 h2
 Qy w _:=EG w
 local' w hw {_ _ _ _ _ _ _ _ _ _ _ _ _} z hc:=Qj LY hw z hc
 AJ w hw {_ _ _ _ _ _ _ _ _ _ _ _ _ _ _ _} z hc hs _ _ hb:=Cb LY hw hc hs hb
 qL w hw {h O id p g q own L A B R Q c sl sg us} z hc hs _ _ hb hr:=by
  have k:=vD (sg:=sg) (us:=us) LY hw z hc hs hb;unfold qX at k;rw [hr] at k;exact k
 fresh w hw {h O id p g q own L A B R Q c sl sg us a X} z hc hs _ _ hb hr:=by
  have k:=vD (sg:=sg) (us:=us) LY hw z hc hs hb;unfold qX at k;rw [hr] at k;exact k
 grow w hw {_ _ _ _ _ _ _ _ _ _ _ _} z hr:=Uu hw z hr
 free w hw {_ _ _ _ _ _ _ _ _ _ _ _ _} z ha hne:=Uv LY hw z ha hne
 Mv w hw {_ _ _ _ _ _ _ _ _ _ _ _ _} z ha hf:=Cc LY hw z ha hf
 EN w hw {_ _ _ _ _ _ _ _ _ _ _ _ _} z ha hf:=yI hw z ha hf
 gather w hw {_ _ _ _ _ _ _ _ _ _ _ _ _ _ _ _} z ha hf hP hu hin hn:=Mf LY hw z ha hf hP hu hin hn
 Nq w _ {h _ _ _ _ _ _ _ _ _ _ _} _:=Ce w h
 FC w hw {_ _ _ _ _ _ _ _ _ _ _ _ _} z hb:=yJ hw z hb
 adopt w hw {_ _ _ _ _ _ _ _ _ _ _ _ _ _} z:=Ql LY hw z
 Hg w hw {_ _ _ _ _ _ _ _ _ _ _ _ _} z _ hne:=zQ hw z hne
 leave w hw {_ _ _ _ _ _ _ _ _ _ _ _ _ _} z:=Qk LY hw z
 vT w hw {_ _ _ _ _ _ _ _ _ _ _ _} z:=Ut hw z
 pages w hw {_ _ _ _ _ _ _ _ _ _ _ _ _ _} z hv hl:=Qi LY hw z hv hl
end Go.Proofs.YtpibbcnkgdmcbaaGreatDoor
