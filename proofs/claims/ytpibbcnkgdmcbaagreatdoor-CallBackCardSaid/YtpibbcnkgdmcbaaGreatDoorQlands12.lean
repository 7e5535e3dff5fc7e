/- Qlands12: texts of layers below, joined (QLand QLandB QLandC QPlc). -/
import Derived.Test.YtpibbcnkgdmcbaaGreatDoorQueues12
import Derived.Test.YtpibbcnkgdmcbaaGreatDoorPlaces
set_option linter.unusedVariables false
set_option maxRecDepth 100000
set_option maxHeartbeats 4000000
namespace Go.Proofs.YtpibbcnkgdmcbaaGreatDoor
open Go.RowKit Go.Maps aB
def PS (w:World) (p:Option Addr) (O:Nat→Prop) (S:QR):Prop:=(p=none∧S=q0)∨ ∃rb,p=some ⟨rb,0,none⟩∧o9 w rb O S
theorem PS.upd {w w':World} {p:Option Addr} {O S':Nat→Prop} {S:QR} (h:PS w p O S) (u:aH S' w w') (hs: ∀k,S' k→ ¬O k):PS w' p O S:=by
 rcases h with h|⟨rb,e,h⟩
 · exact .inl h
 · exact .inr ⟨rb,e,h.upd u hs⟩
def dG (w:World) (p:Option Addr) (O:Nat→Prop) (S':QR) (a:Int) (e:Ending) (w':World):Prop:=
 e= .returned (.int .i64 a)∧ ∃O',PS w' p O' S'∧(∀k,O k→O' k)∧(∀k,O' k→O k∨(w.heap.size≤k∧k<w'.heap.size))∧aH O w w'
theorem JF {w w':World} {rb:Nat} {O:Nat→Prop} {S':QR} {a:Int} {e:Ending} (h:gZ w rb O S' a e w'):dG w (some ⟨rb,0,none⟩) O S' a e w':=by
 obtain ⟨h1,O',h2,h3,h4,h5⟩:=h;exact ⟨h1,O', .inr ⟨rb,rfl,h2⟩,h3,h4,h5⟩
section
variable {w:World} {p:Option Addr} {O:Nat→Prop} {S:QR} {x:Int}
theorem Af (h:PS w p O S) (hx:gy x):Calls Tryz.prog 146 #[.pointer p, .int .i64 x] w fun e w'=>dG w p O (aX S [x]).1 (aX S [x]).2 e w':=by
 rcases h with ⟨rfl,rfl⟩|⟨rb,rfl,h⟩
 · exact (rJ ((yR w x))).mono fun e w' ⟨e1,e2⟩=>by subst e2;exact ⟨e1,O, .inl ⟨rfl,rfl⟩,fun _=>id,fun _=> .inl,aH.refl _ _⟩
 · exact (Lb h hx).mono fun e w'=>JF
theorem TM (h:PS w p O S) (hx:gy x):Calls Tryz.prog 149 #[.pointer p, .int .i64 x] w fun e w'=>dG w p O (eO S x).1 (eO S x).2 e w':=by
 rcases h with ⟨rfl,rfl⟩|⟨rb,rfl,h⟩
 · exact (yX ((yR w x))).mono fun e w' ⟨e1,u⟩=>⟨e1,O, .inl ⟨rfl,rfl⟩,fun _=>id,fun _=> .inl,u.mono fun _ x=>x.elim⟩
 · exact (Tt h hx).mono fun e w'=>JF
theorem TK (h:PS w p O S) (hx:gy x):Calls Tryz.prog 179 #[.pointer p, .int .i64 x] w fun e w'=>dG w p O (dK S x).1 (dK S x).2 e w':=by
 rcases h with ⟨rfl,rfl⟩|⟨rb,rfl,h⟩
 · exact (w_ ((yR w x))).mono fun e w' ⟨e1,u⟩=>⟨e1,O, .inl ⟨rfl,rfl⟩,fun _=>id,fun _=> .inl,u.mono fun _ x=>x.elim⟩
 · exact (Tp h hx).mono fun e w'=>JF
end
def FJ (w:World) (b:Nat) (O:Nat→Prop) (S:QR):Prop:=
 ∃(p:Option Addr) (Or:Nat→Prop),aV w b 110 #[.pointer p]∧PS w p Or S∧ ¬Or b∧O b∧(∀k,Or k→O k)∧(∀k,O k→k<w.heap.size)∧ ∀x∈S.all,gy x
theorem FJ.upd {w:World} {b:Nat} {O:Nat→Prop} {S:QR} {w':World} {T:Nat→Prop} (h:FJ w b O S) (u:aH T w w') (hT: ∀k,T k→ ¬O k):FJ w' b O S:=by
 obtain ⟨p,Or,hb,hp,h1,h2,h3,h4,h5⟩:=h;exact ⟨p,Or,hb.upd u (fun x=>hT b x h2),hp.upd u fun k hk x=>hT k hk (h3 k x),h1,h2,h3,fun k hk=>Nat.lt_of_lt_of_le (h4 k hk) u.size,h5⟩
theorem FJ.zero (w:World):FJ (w.alloc (.cells Vu 110)) w.heap.size (fun k=>k=w.heap.size) q0:=
 ⟨none,fun _=>False,aV.new w _ _, .inl ⟨rfl,rfl⟩,id,rfl,fun _ x=>x.elim,fun k hk=>by rw [World.size_alloc];omega,fun x hx=>by cases hx⟩
theorem dG.qu {w w':World} {b:Nat} {p:Option Addr} {O Or:Nat→Prop} {S':QR} {a:Int} {e:Ending} (h:dG w p Or S' a e w') (hb:aV w b 110 #[.pointer p]) (h1: ¬Or b) (h2:O b) (h3: ∀k,Or k→O k) (h4: ∀k,O k→k<w.heap.size) (h5: ∀x∈S'.all,gy x):
 e= .returned (.int .i64 a)∧ ∃O',FJ w' b O' S'∧(∀k,O' k→O k∨w.heap.size≤k)∧aH O w w':=by
 obtain ⟨e1,O1,k1,k2,k3,u⟩:=h;refine ⟨e1,fun k=>O k∨O1 k,⟨p,O1,hb.upd u h1,k1,fun hh=> ?_, .inl h2,fun k=> .inr,fun k hk=> ?_,h5⟩,fun k hk=> ?_,u.mono h3⟩
 · rcases k3 b hh with x|x
   · exact h1 x
   · have:=hb.lt;omega
 · have us:=u.size
   rcases hk with hk|hk
   · have:=h4 k hk;omega
   · rcases k3 k hk with x|x
     · have:=h4 k (h3 k x);omega
     · exact x.2
 · rcases hk with hk|hk
   · exact .inl hk
   · rcases k3 k hk with x|x
     · exact .inl (h3 k x)
     · exact .inr x.1
theorem fP {S:QR} {x:Int} (hS: ∀y∈S.all,gy y) (hx:gy x):(∀y∈(bK S [x]).1.all,gy y)∧(∀y∈(aX S [x]).1.all,gy y)∧(∀y∈(eO S x).1.all,gy y)∧ ∀y∈(dK S x).1.all,gy y:=by
 have hR: ∀y∈S.R,gy y:=fun y hy=>hS y (dx.2 (.inl hy));have hF: ∀y∈S.F,gy y:=fun y hy=>hS y (dx.2 (.inr hy));have h1: ∀y∈S.R++ [x],gy y:=fun y hy=>by
  rcases List.mem_append.1 hy with hy|hy
  · exact hR y hy
  · rw [List.mem_singleton.1 hy];exact hx
 have h2: ∀y∈S.F++ [x],gy y:=fun y hy=>by
  rcases List.mem_append.1 hy with hy|hy
  · exact hF y hy
  · rw [List.mem_singleton.1 hy];exact hx
 refine ⟨fun y hy=> ?_,fun y hy=> ?_,fun y hy=> ?_,fun y hy=> ?_⟩
 · by_cases h:x∈S.all
   · rw [gT h] at hy;exact hS y hy
   · rw [fB h] at hy
     rcases dx.1 hy with hy|hy
     · exact h1 y hy
     · exact hF y hy
 · by_cases h:x∈S.all
   · rw [dW h] at hy
     rcases dx.1 hy with hy|hy
     · exact hR y (gH.1 hy).1
     · exact hF y (gH.1 hy).1
   · rw [fO h] at hy;exact hS y hy
 · by_cases h:x∈S.R
   · rw [sM h] at hy
     rcases dx.1 hy with hy|hy
     · exact hR y (gH.1 hy).1
     · exact h2 y hy
   · rw [wU h] at hy;exact hS y hy
 · by_cases h:x∈S.F
   · rw [rz h] at hy
     rcases dx.1 hy with hy|hy
     · exact h1 y hy
     · exact hF y (gH.1 hy).1
   · rw [show dK S x=(S,5) from if_neg h] at hy;exact hS y hy
def wW (w:World) (f:QR→List Int→QR×Int) (b:Nat) (p:Option Addr) (O:Nat→Prop) (S:QR) (l:List Int) (i:Value) (wr:World):Prop:=
 ∃(t:Nat) (S1:QR) (O1:Nat→Prop),t≤l.length∧i= .int .i64 (t:Int)∧f S l=f S1 (l.drop t)∧aV wr b 110 #[.pointer p]∧PS wr p O1 S1∧ ¬O1 b∧(∀k,O1 k→O k∨(w.heap.size≤k∧k<wr.heap.size))∧(∀x∈S1.all,gy x)∧S1.all.length≤S.all.length+t∧aH O w wr
theorem wW.next {w wr w':World} {f:QR→List Int→QR×Int} {b:Nat} {p:Option Addr} {O O1:Nat→Prop} {S S2:QR} {l:List Int} {t:Nat} {a:Int} {e:Ending} (hb:aV wr b 110 #[.pointer p]) (hlt:b<w.heap.size) (h1: ¬O1 b) (h2: ∀k,O1 k→O k∨(w.heap.size≤k∧k<wr.heap.size)) (h4: ∀k,O k→k<w.heap.size) (u:aH O w wr)
 (hq:dG wr p O1 S2 a e w') (ht:t+1≤l.length) (hf:f S l=f S2 (l.drop (t+1))) (h5: ∀x∈S2.all,gy x) (hl:S2.all.length≤S.all.length+(t+1)):wW w f b p O S l (.int .i64 ((t+1:Nat):Int)) w':=by
 obtain ⟨e1,O2,k1,k2,k3,u2⟩:=hq;have us:=u.size;refine ⟨t+1,S2,O2,ht,rfl,hf,hb.upd u2 h1,k1,fun hh=> ?_,fun k hk=> ?_,h5,hl,u.step u2 fun k hk=> ?_⟩
 · rcases k3 b hh with x|x
   · exact h1 x
   · omega
 · rcases k3 k hk with x|x
   · rcases h2 k x with y|y
     · exact .inl y
     · exact .inr ⟨y.1,by have:=u2.size;omega⟩
   · exact .inr ⟨by omega,x.2⟩
 · rcases h2 k hk with y|y
   · exact .inl y
   · exact .inr y.1
theorem wW.qu {w wr:World} {b:Nat} {p:Option Addr} {O O1:Nat→Prop} {S1:QR} (hb:aV wr b 110 #[.pointer p]) (hp:PS wr p O1 S1) (h1: ¬O1 b) (h2: ∀k,O1 k→O k∨(w.heap.size≤k∧k<wr.heap.size)) (hO:O b) (h4: ∀k,O k→k<w.heap.size) (h5: ∀x∈S1.all,gy x) (u:aH O w wr):
 ∃O',FJ wr b O' S1∧(∀k,O' k→O k∨w.heap.size≤k)∧aH O w wr:=by
 refine ⟨fun k=>O k∨O1 k,⟨p,O1,hb,hp,h1, .inl hO,fun k=> .inr,fun k hk=> ?_,h5⟩,fun k hk=> ?_,u⟩
 · have us:=u.size
   rcases hk with hk|hk
   · have:=h4 k hk;omega
   · rcases h2 k hk with y|y
     · have:=h4 k y;omega
     · exact y.2
 · rcases hk with hk|hk
   · exact .inl hk
   · rcases h2 k hk with y|y
     · exact .inl y
     · exact .inr y.1
theorem wW.stop {w wr w':World} {b:Nat} {p:Option Addr} {O O1:Nat→Prop} {S2:QR} {a:Int} {e:Ending} (hb:aV wr b 110 #[.pointer p]) (hlt:b<w.heap.size) (h1: ¬O1 b) (h2: ∀k,O1 k→O k∨(w.heap.size≤k∧k<wr.heap.size)) (hO:O b) (h4: ∀k,O k→k<w.heap.size) (u:aH O w wr)
 (hq:dG wr p O1 S2 a e w') (h5: ∀x∈S2.all,gy x): ∃O',FJ w' b O' S2∧(∀k,O' k→O k∨w.heap.size≤k)∧aH O w w':=by
 obtain ⟨t,S9,O9,-,-,e9,k1,k2,k3,k4,k5,-,k7⟩:=wW.next (f:=fun S _=>(S,0)) (S:=S2) (S2:=S2) (l:= [0]) (t:=0) hb hlt h1 h2 h4 u hq (by simp) rfl h5 (by omega)
 simp only [Prod.mk.injEq,and_true] at e9;subst e9;exact wW.qu k1 k2 k3 k4 hO h4 k5 k7
theorem dG.un {w w':World} {p:Option Addr} {O:Nat→Prop} {S':QR} {a:Int} {e:Ending} (h:dG w p O S' a e w'):e= .returned (.int .i64 a)∧dG w p O S' a e w':=⟨h.1,h⟩
theorem Yb (w:World) {b:Nat} {O:Nat→Prop} {S:QR} {v:Value} {l:List Int} (h:FJ w b O S) (hv:iF w v l) (hn:CY v l O):
 Calls Tryz.prog 113 #[.pointer (some ⟨b,0,none⟩),v] w fun e w'=>e= .returned (.int .i64 (aX S l).2)∧ ∃O',FJ w' b O' (aX S l).1∧(∀k,O' k→O k∨w.heap.size≤k)∧aH O w w':=by
 obtain ⟨p,Or,hb,hp,h1,h2,h3,h4,h5⟩:=h;obtain ⟨a,c,rfl,hc1,hc2⟩:=hv.out;obtain ⟨n,hnl⟩: ∃n,l.length=n:=⟨_,rfl⟩;rw [hnl] at hv hn hc1⊢;have VA:=Lib.hid hv;have VN:=Lib.hid hn;have HL:=Lib.hid hnl;have HO:=Lib.hid h2;have H4:=Lib.hid h4;have Jj:=Lib.hid hb.lt;have I0:Hid (wW w aX b p O S l (.int .i64 0) w):=Lib.hid ⟨0,S,Or,Nat.zero_le _,rfl,rfl,hb,hp,h1,fun k hk=> .inl (h3 k hk),h5,Nat.le_refl _,aH.refl _ _⟩;clear hb hp h1 h2 h3 h4 h5 hv hn hnl;go_enter Tryz.func113,Tryz.ntmps113
 go_wp2;go_loopw [12] (fun i wr=>wW w aX b p O S l i wr) (fun i _=>n-(intOf i).toNat)
 case atStart=>exact I0.out
 case round=>
  clear I0;obtain ⟨t,S1,O1,ht,rfl,hf,hb,hp,h1,h2,h5,hl,u⟩:=hrel;rw [HL.out] at ht;by_cases htn:t<n
  · obtain ⟨b3,LG,x,ea,hx,hxm,fM,d0⟩:=(VA.out.Dh u VN.out).at (t:=t) (by rw [HL.out];exact htn)
    subst ea;have c0:wr.cell? ⟨b,0,none⟩=some (.pointer p):=hb.cell 0;have K1:=Af hp fM;have ed:l.drop t=x::l.drop (t+1):=List.drop_eq_getElem?_toList_append.trans (by rw [hx];rfl);have hg:=fP h5 fM;have t2:decide ((t:Int)<(n:Int))=true:=decide_eq_true (by omega);have t2':decide (t<n)=true:=decide_eq_true htn;have q3:(0:Int)≤(t:Int):=by omega
    have q4:(t:Int)<(n:Int):=by omega
    by_cases hm:x∈S1.all
    · rw [dW hm] at K1
      have NX:Hid (∀e w',dG wr p O1 ⟨aB.out S1.R x,aB.out S1.F x⟩ 0 e w'→wW w aX b p O S l (.int .i64 ((t+1:Nat):Int)) w'):=Lib.hid fun e w' hq=>wW.next hb Jj.out h1 h2 H4.out u hq (by rw [HL.out];omega) (by rw [hf,ed];exact if_pos hm) (by have:=hg.2.1;rw [dW hm] at this;exact this) (by have y1:=pO S1.R x;have y2:=pO S1.F x;simp only [QR.all,List.length_append] at hl⊢;omega)
      have K:=Lib.hid (K1.mono fun e w' hq=>hq.un);rw [show ((t+1:Nat):Int)=(t:Int)+1 by omega] at NX;clear hf hb hp h1 h2 h5 hl u hg K1 ed hx hxm fM hm;go_wp2_with fail
      refine K.out.mono ?_;rintro e w1 ⟨rfl,hq⟩;have N1:=Lib.hid (NX.out _ _ hq);clear hq c0;go_wp2;go_roundw
      case rel=>exact N1.out
      case measure=>simp [intOf];omega
    · rw [fO hm] at K1
      have K:=Lib.hid (K1.mono fun e w' hq=>hq.un);have FIN:Hid (aX S l=(S1,5)∧ ∀e w',dG wr p O1 S1 5 e w'→ ∃O',FJ w' b O' S1∧(∀k,O' k→O k∨w.heap.size≤k)∧aH O w w'):=Lib.hid ⟨by rw [hf,ed];exact if_neg hm,fun e w' hq=>by
       exact wW.stop hb Jj.out h1 h2 HO.out H4.out u hq h5⟩
      clear hf hb hp h1 h2 h5 hl u hg K1 ed hx hxm fM hm;go_wp2_with fail
      refine K.out.mono ?_;rintro e w1 ⟨rfl,hq⟩;have N1:=Lib.hid (FIN.out.2 _ _ hq);have EQ:=Lib.hid FIN.out.1;clear hq c0;go_wp2;go_ret;rw [EQ.out];exact ⟨rfl,N1.out⟩
  · obtain rfl:t=n:=by omega
    have t2:decide ((t:Int)<(t:Int))=false:=decide_eq_false (by omega);have Q:=Lib.hid (wW.qu hb hp h1 h2 HO.out H4.out h5 u);have e9:l.drop t= []:=List.drop_eq_nil_of_le (by rw [HL.out];exact Nat.le_refl _);have HF:=Lib.hid hf;have E9:=Lib.hid e9;clear hf hb hp h1 h2 h5 hl u e9;go_wp2;go_ret;rw [HF.out,E9.out];exact ⟨rfl,Q.out⟩
theorem wC {w:World} {rb:Nat} {O:Nat→Prop} {S:QR} {x:Int} (h:PS w (some ⟨rb,0,none⟩) O S) (hx:gy x) (hm:S.all.length≤many):Calls Tryz.prog 178 #[.pointer (some ⟨rb,0,none⟩), .int .i64 x] w fun e w'=>dG w (some ⟨rb,0,none⟩) O (bK S [x]).1 (bK S [x]).2 e w':=by
 rcases h with ⟨h,_⟩|⟨rb',e,h⟩
 · cases h
 · injection e with e;injection e with e;subst e;exact (Tq h hx hm).mono fun e w'=>JF
theorem aaz (w:World) {b:Nat} {O:Nat→Prop} {S:QR} {v:Value} {l:List Int} (h:FJ w b O S) (hv:iF w v l) (hn:CY v l O) (sj:S.all.length+l.length≤many):
 Calls Tryz.prog 153 #[.pointer (some ⟨b,0,none⟩),v] w fun e w'=>e= .returned (.int .i64 (bK S l).2)∧ ∃O',FJ w' b O' (bK S l).1∧(∀k,O' k→O k∨w.heap.size≤k)∧aH O w w':=by
 obtain ⟨p,Or,hb,hp,h1,h2,h3,h4,h5⟩:=h;obtain ⟨a,c,rfl,hc1,hc2⟩:=hv.out;obtain ⟨n,hnl⟩: ∃n,l.length=n:=⟨_,rfl⟩;rw [hnl] at hv hn hc1 sj⊢;have VA:=Lib.hid hv;have VN:=Lib.hid hn;have HL:=Lib.hid hnl;have HO:=Lib.hid h2;have H4:=Lib.hid h4;have Jj:=Lib.hid hb.lt;have HMA:=Lib.hid sj;have c0:w.cell? ⟨b,0,none⟩=some (.pointer p):=hb.cell 0;rcases id hp with ⟨rfl,rfl⟩|⟨rb,rfl,hN⟩
 · have z0:w.frozen? ⟨b,0,none⟩=false:=hb.frozen 0
   have hmm:= @run_makeMap Tryz.prog;have hsz:=hb.lt;have ne1:w.heap.size≠b:=by omega
   have ne2:w.heap.size+1≠b:=by omega
   obtain ⟨m,hm⟩: ∃y,w.heap.size=y:=⟨_,rfl⟩;obtain ⟨rb,hrb⟩: ∃y,m+1=y:=⟨_,rfl⟩;obtain ⟨W2,hW2⟩: ∃y,(w.alloc (.map #[] 0)).alloc (.cells #[.pointer none, .pointer none, .pointer none, .pointer none, .map (some m)] 224)=y:=⟨_,rfl⟩;have sz2:W2.heap.size=m+2:=by rw [←hW2];simp [hm]
   have u2:aH (fun _=>False) w W2:=by rw [←hW2];exact ((aH.refl _ w).alloc _).alloc _
   have bq:=(hb.upd u2 id).put 0 (.pointer (some ⟨rb,0,none⟩));have br:aV W2 rb 224 #[.pointer none, .pointer none, .pointer none, .pointer none, .map (some m)]:=by rw [←hW2,←hrb,←hm];have:=aV.new (w.alloc (.map #[] 0)) 224 #[.pointer none, .pointer none, .pointer none, .pointer none, .map (some w.heap.size)];rw [World.size_alloc] at this;exact this
   have hM:W2.ownsMap Tryz.prog 3 iU m 0 (.map []):=by rw [←hW2,←hm];exact (World.ownsMap_made w _ _ _).alloc _
   have c2:W2.cell? ⟨b,0,none⟩=some (.pointer none):=(hb.upd u2 id).cell 0;have z2:W2.frozen? ⟨b,0,none⟩=false:=(hb.upd u2 id).frozen 0;have us:=(aH.refl (fun k=>k=b) W2).setCell (p:=⟨b,0,none⟩) (.inl rfl) (.pointer (some ⟨rb,0,none⟩));have I0:Hid (wW w bK b (some ⟨rb,0,none⟩) O q0 l (.int .i64 0) (W2.setCell ⟨b,0,none⟩ (.pointer (some ⟨rb,0,none⟩)))):=Lib.hid ⟨0,q0,fun k=>k=m∨k=rb,Nat.zero_le _,rfl,rfl,by simpa using bq,
    .inr ⟨rb,rfl,m, [], [],⟨br.upd us (fun e=>by omega),trivial,trivial,⟨.map [],gU hM us (fun e=>by omega),Bc⟩,List.nodup_nil,List.nodup_nil,(fun e he=>by cases he),(by omega),(fun e he=>by cases he)⟩,rfl, .inr rfl, .inl rfl,(fun e he=>by cases he)⟩,
    (fun hh=>by rcases hh with e|e<;>omega),(fun k hk=> .inr (by rw [World.size_setCell,sz2];rcases hk with e|e<;>omega)),(fun x hx=>by cases hx),Nat.le_refl _,(u2.mono fun _ x=>x.elim).trans (us.mono fun k hk=>by rw [hk];exact h2)⟩
   clear hb hp h1 h2 h3 h4 h5 hv hn hnl sj br hM us bq u2;go_enter Tryz.func153,Tryz.ntmps153
   go_wp2;go_loopw [23] (fun i wr=>wW w bK b (some ⟨rb,0,none⟩) O q0 l i wr) (fun i _=>n-(intOf i).toNat)
   case atStart=>exact I0.out
   case round=>
    clear I0;obtain ⟨t,S1,O1,ht,rfl,hf,hb,hp,h1,h2,h5,hl,u⟩:=hrel;rw [HL.out] at ht;by_cases htn:t<n
    · obtain ⟨b3,LG,x,ea,hx,hxm,fM,d0⟩:=(VA.out.Dh u VN.out).at (t:=t) (by rw [HL.out];exact htn)
      subst ea;have c0:wr.cell? ⟨b,0,none⟩=some (.pointer (some ⟨rb,0,none⟩)):=hb.cell 0;have Qp:S1.all.length≤many:=by have:=HMA.out;omega
      have K1:=wC hp fM Qp;have ed:l.drop t=x::l.drop (t+1):=List.drop_eq_getElem?_toList_append.trans (by rw [hx];rfl);have hg:=fP h5 fM;have t2:decide ((t:Int)<(n:Int))=true:=decide_eq_true (by omega);have t2':decide (t<n)=true:=decide_eq_true htn;have q3:(0:Int)≤(t:Int):=by omega
      have q4:(t:Int)<(n:Int):=by omega
      by_cases hm:x∈S1.all
      · rw [gT hm] at K1
        have K:=Lib.hid (K1.mono fun e w' hq=>hq.un);have FIN:Hid (bK q0 l=(S1,6)∧ ∀e w',dG wr (some ⟨rb,0,none⟩) O1 S1 6 e w'→ ∃O',FJ w' b O' S1∧(∀k,O' k→O k∨w.heap.size≤k)∧aH O w w'):=Lib.hid ⟨by rw [hf,ed];exact if_pos hm,fun e w' hq=>by
         exact wW.stop hb Jj.out h1 h2 HO.out H4.out u hq h5⟩
        clear hf hb hp h1 h2 h5 hl u hg K1 ed hx hxm fM hm;go_wp2_with fail
        refine K.out.mono ?_;rintro e w1 ⟨rfl,hq⟩;have N1:=Lib.hid (FIN.out.2 _ _ hq);have EQ:=Lib.hid FIN.out.1;clear hq c0;go_wp2;go_ret;rw [EQ.out];exact ⟨rfl,N1.out⟩
      · rw [fB hm] at K1
        have NX:Hid (∀e w',dG wr (some ⟨rb,0,none⟩) O1 ⟨S1.R++ [x],S1.F⟩ 0 e w'→wW w bK b (some ⟨rb,0,none⟩) O q0 l (.int .i64 ((t+1:Nat):Int)) w'):=Lib.hid fun e w' hq=>wW.next hb Jj.out h1 h2 H4.out u hq (by rw [HL.out];omega) (by rw [hf,ed];exact if_neg hm) (by have:=hg.1;rw [fB hm] at this;exact this) (by simp only [QR.all,List.length_append,List.length_cons,List.length_nil] at hl⊢;omega)
        have K:=Lib.hid (K1.mono fun e w' hq=>hq.un);rw [show ((t+1:Nat):Int)=(t:Int)+1 by omega] at NX;clear hf hb hp h1 h2 h5 hl u hg K1 ed hx hxm fM hm;go_wp2_with fail
        refine K.out.mono ?_;rintro e w1 ⟨rfl,hq⟩;have N1:=Lib.hid (NX.out _ _ hq);clear hq c0;go_wp2;go_roundw
        case rel=>exact N1.out
        case measure=>simp [intOf];omega
    · obtain rfl:t=n:=by omega
      have t2:decide ((t:Int)<(t:Int))=false:=decide_eq_false (by omega);have Q:=Lib.hid (wW.qu hb hp h1 h2 HO.out H4.out h5 u);have e9:l.drop t= []:=List.drop_eq_nil_of_le (by rw [HL.out];exact Nat.le_refl _);have HF:=Lib.hid hf;have E9:=Lib.hid e9;clear hf hb hp h1 h2 h5 hl u e9;go_wp2;go_ret;rw [HF.out,E9.out];exact ⟨rfl,Q.out⟩
 · have I0:Hid (wW w bK b (some ⟨rb,0,none⟩) O S l (.int .i64 0) w):=Lib.hid ⟨0,S,Or,Nat.zero_le _,rfl,rfl,hb,hp,h1,fun k hk=> .inl (h3 k hk),h5,Nat.le_refl _,aH.refl _ _⟩
   clear hb hp h1 h2 h3 h4 h5 hv hn hnl sj hN;go_enter Tryz.func153,Tryz.ntmps153
   go_wp2;go_loopw [23] (fun i wr=>wW w bK b (some ⟨rb,0,none⟩) O S l i wr) (fun i _=>n-(intOf i).toNat)
   case atStart=>exact I0.out
   case round=>
    clear I0;obtain ⟨t,S1,O1,ht,rfl,hf,hb,hp,h1,h2,h5,hl,u⟩:=hrel;rw [HL.out] at ht;by_cases htn:t<n
    · obtain ⟨b3,LG,x,ea,hx,hxm,fM,d0⟩:=(VA.out.Dh u VN.out).at (t:=t) (by rw [HL.out];exact htn)
      subst ea;have c0:wr.cell? ⟨b,0,none⟩=some (.pointer (some ⟨rb,0,none⟩)):=hb.cell 0;have hmm:S1.all.length≤many:=by have:=HMA.out;omega
      have K1:=wC hp fM hmm;have ed:l.drop t=x::l.drop (t+1):=List.drop_eq_getElem?_toList_append.trans (by rw [hx];rfl);have hg:=fP h5 fM;have t2:decide ((t:Int)<(n:Int))=true:=decide_eq_true (by omega);have t2':decide (t<n)=true:=decide_eq_true htn;have q3:(0:Int)≤(t:Int):=by omega
      have q4:(t:Int)<(n:Int):=by omega
      by_cases hm:x∈S1.all
      · rw [gT hm] at K1
        have K:=Lib.hid (K1.mono fun e w' hq=>hq.un);have FIN:Hid (bK S l=(S1,6)∧ ∀e w',dG wr (some ⟨rb,0,none⟩) O1 S1 6 e w'→ ∃O',FJ w' b O' S1∧(∀k,O' k→O k∨w.heap.size≤k)∧aH O w w'):=Lib.hid ⟨by rw [hf,ed];exact if_pos hm,fun e w' hq=>by
         exact wW.stop hb Jj.out h1 h2 HO.out H4.out u hq h5⟩
        clear hf hb hp h1 h2 h5 hl u hg K1 ed hx hxm fM hm;go_wp2_with fail
        refine K.out.mono ?_;rintro e w1 ⟨rfl,hq⟩;have N1:=Lib.hid (FIN.out.2 _ _ hq);have EQ:=Lib.hid FIN.out.1;clear hq c0;go_wp2;go_ret;rw [EQ.out];exact ⟨rfl,N1.out⟩
      · rw [fB hm] at K1
        have NX:Hid (∀e w',dG wr (some ⟨rb,0,none⟩) O1 ⟨S1.R++ [x],S1.F⟩ 0 e w'→wW w bK b (some ⟨rb,0,none⟩) O S l (.int .i64 ((t+1:Nat):Int)) w'):=Lib.hid fun e w' hq=>wW.next hb Jj.out h1 h2 H4.out u hq (by rw [HL.out];omega) (by rw [hf,ed];exact if_neg hm) (by have:=hg.1;rw [fB hm] at this;exact this) (by simp only [QR.all,List.length_append,List.length_cons,List.length_nil] at hl⊢;omega)
        have K:=Lib.hid (K1.mono fun e w' hq=>hq.un);rw [show ((t+1:Nat):Int)=(t:Int)+1 by omega] at NX;clear hf hb hp h1 h2 h5 hl u hg K1 ed hx hxm fM hm;go_wp2_with fail
        refine K.out.mono ?_;rintro e w1 ⟨rfl,hq⟩;have N1:=Lib.hid (NX.out _ _ hq);clear hq c0;go_wp2;go_roundw
        case rel=>exact N1.out
        case measure=>simp [intOf];omega
    · obtain rfl:t=n:=by omega
      have t2:decide ((t:Int)<(t:Int))=false:=decide_eq_false (by omega);have Q:=Lib.hid (wW.qu hb hp h1 h2 HO.out H4.out h5 u);have e9:l.drop t= []:=List.drop_eq_nil_of_le (by rw [HL.out];exact Nat.le_refl _);have HF:=Lib.hid hf;have E9:=Lib.hid e9;clear hf hb hp h1 h2 h5 hl u e9;go_wp2;go_ret;rw [HF.out,E9.out];exact ⟨rfl,Q.out⟩
end Go.Proofs.YtpibbcnkgdmcbaaGreatDoor
namespace Go.Proofs.YtpibbcnkgdmcbaaGreatDoor
open Go.RowKit Go.Maps aB
theorem wO {w:World} {g:Nat} {t:TypeId} {p q:Option Addr} (h:aV w g t #[.pointer p, .pointer q]):(loadVar 202 ⟨g,0,none⟩).run Tryz.prog w= .ok (.agg #[.pointer p, .pointer q]) w:=by
 have hi:(Tryz.prog.info? 202).map (fun j=>j.size)=some 2:=by kernel_rfl
 exact run_loadVar_row w g t 202 _ (0,0) _ h Tryz.underlying202 rfl hi
theorem qj {fn:Func} {a b:Tmp} {t:TypeId} (h:fn.results= #[.cell a t, .cell b t]) (tmps:Array Value) {P:Program} {w:World} {pa pb:Addr} {va vb:Value} (ea:tmps.getD a undef= .pointer (some pa)) (eb:tmps.getD b undef= .pointer (some pb)) (ha:(loadVar t pa).run P w= .ok va w) (hb:(loadVar t pb).run P w= .ok vb w):
 (results fn tmps).run P w= .ok (.tuple #[va,vb]) w:=by
 rw [Array.getD_eq_getD_getElem?] at ea eb;simp [results,h,ea,eb,asAddr,ha,hb]
abbrev rowV (l:List Sp):Value:= .agg #[.pointer (dP l none), .pointer (fq l none)]
theorem Q9 (w:World):Calls Tryz.prog 140 #[.pointer none] w fun e w'=>e= .returned (.tuple #[rowV [],rowV []])∧Below w.heap.size w w':=by
 go_enter Tryz.func140,Tryz.ntmps140
 go_wp2;have b1:=(aV.new w 202 #[.pointer none, .pointer none]).alloc (.cells #[.pointer none, .pointer none] 202);have b2:=aV.new (w.alloc (.cells #[.pointer none, .pointer none] 202)) 202 #[.pointer none, .pointer none];rw [World.size_alloc] at b2;refine bodyPost_ret (qj rfl _ rfl rfl (wO b1) (wO b2)) rfl ?_;exact ⟨rfl,((Below.refl _ w).alloc (Nat.le_refl _) _).alloc (by rw [World.size_alloc];omega) _⟩
theorem Na {w:World} {rb mb:Nat} {R F:List Sp} (h:bU w rb mb R F):Calls Tryz.prog 140 #[.pointer (some ⟨rb,0,none⟩)] w fun e w'=>e= .returned (.tuple #[rowV R,rowV F])∧Below w.heap.size w w':=by
 have hlt:=h.blk.lt;have c0:w.cell? ⟨rb,0,none⟩=some (.pointer (dP R none)):=h.blk.cell 0;have c1:w.cell? ⟨rb,1,none⟩=some (.pointer (fq R none)):=h.blk.cell 1;have c2:w.cell? ⟨rb,2,none⟩=some (.pointer (dP F none)):=h.blk.cell 2;have c3:w.cell? ⟨rb,3,none⟩=some (.pointer (fq F none)):=h.blk.cell 3;obtain ⟨p0,h0⟩: ∃y,dP R none=y:=⟨_,rfl⟩;obtain ⟨p1,h1⟩: ∃y,fq R none=y:=⟨_,rfl⟩;obtain ⟨p2,h2⟩: ∃y,dP F none=y:=⟨_,rfl⟩;obtain ⟨p3,h3⟩: ∃y,fq F none=y:=⟨_,rfl⟩;rw [h0] at c0;rw [h1] at c1;rw [h2] at c2;rw [h3] at c3;show Calls _ _ _ _ fun e w'=>e= .returned (.tuple #[.agg #[.pointer (dP R none), .pointer (fq R none)], .agg #[.pointer (dP F none), .pointer (fq F none)]])∧_;rw [h0,h1,h2,h3];have ne1:w.heap.size≠rb:=by omega
 have ne2:w.heap.size+1≠rb:=by omega
 clear h h0 h1 h2 h3;go_enter Tryz.func140,Tryz.ntmps140
 go_wp2;go_region_held3 (fun x=>x.cell? ⟨rb,0,none⟩=some (.pointer p0)∧x.cell? ⟨rb,1,none⟩=some (.pointer p1)∧x.cell? ⟨rb,2,none⟩=some (.pointer p2)∧x.cell? ⟨rb,3,none⟩=some (.pointer p3)) (first|go_keep|exact ⟨c0,c1,c2,c3⟩) (fail)
 go_wp2;have b1:=((aV.new w 202 #[.pointer p0, .pointer p1]).alloc (.cells #[.pointer p2, .pointer p3] 202)).drew;have b2:=(aV.new (w.alloc (.cells #[.pointer p0, .pointer p1] 202)) 202 #[.pointer p2, .pointer p3]).drew;rw [World.size_alloc] at b2;refine bodyPost_ret (qj rfl _ rfl rfl (wO b1) (wO b2)) rfl ?_;exact ⟨rfl,(((Below.refl _ w).alloc (Nat.le_refl _) _).alloc (by rw [World.size_alloc];omega) _).drew⟩
theorem wD {w:World} {p:Option Addr} {O:Nat→Prop} {S:QR} (h:PS w p O S): ∃rb R F,S=⟨nums R,nums F⟩∧dw w ⟨rb,0,none⟩ none R none∧dw w ⟨rb,2,none⟩ none F none∧
 Calls Tryz.prog 140 #[.pointer p] w fun e w'=>e= .returned (.tuple #[rowV R,rowV F])∧Below w.heap.size w w':=by
 rcases h with ⟨rfl,rfl⟩|⟨rb,rfl,mb,R,F,h,rfl,-⟩
 · exact ⟨0, [], [],rfl,trivial,trivial,Q9 w⟩
 · exact ⟨rb,R,F,rfl,h.sr,h.sf,Na h⟩
end Go.Proofs.YtpibbcnkgdmcbaaGreatDoor
namespace Go.Proofs.YtpibbcnkgdmcbaaGreatDoor
open Go.RowKit Go.Maps aB
theorem YP (w:World) {b:Nat} {O:Nat→Prop} {S:QR} (h:FJ w b O S) (hm:S.all.length≤many):
 Calls Tryz.prog 111 #[.pointer (some ⟨b,0,none⟩)] w fun e w'=> ∃v,e= .returned v∧(iF w' v S.R∧Vec Elem.ints w' v S.R)∧(∀k,In v k→w.heap.size≤k)∧Below w.heap.size w w':=by
 obtain ⟨p,Or,hb,hp,-,-,-,-,h5⟩:=h;obtain ⟨rb,R,F,rfl,sR,sF,hc⟩:=wD hp;have c0:w.cell? ⟨b,0,none⟩=some (.pointer p):=hb.cell 0;have K:=Lib.hid hc;obtain ⟨p0,e0⟩: ∃y,dP R none=y:=⟨_,rfl⟩;obtain ⟨p1,e1⟩: ∃y,fq R none=y:=⟨_,rfl⟩;obtain ⟨p2,e2⟩: ∃y,dP F none=y:=⟨_,rfl⟩;obtain ⟨p3,e3⟩: ∃y,fq F none=y:=⟨_,rfl⟩;have T:Hid (∀w1 w2 g,g=w2.heap.size→Below w.heap.size w w1→Below w1.heap.size w1 w2→w1.heap.size≤w2.heap.size→Calls Tryz.prog 141 #[.slice (some ⟨g,0,none⟩) 1 1] (w2.alloc (.cells #[.pointer p0, .pointer p1] 202)) fun e w'=> ∃v,e= .returned v∧(iF w' v (nums R)∧Vec Elem.ints w' v (nums R))∧(∀k,In v k→w.heap.size≤k)∧Below w.heap.size w w'):=Lib.hid fun w1 w2 g hg h1 h2 hs=>by
  subst hg;have bn:=aV.new w2 202 #[.pointer p0, .pointer p1];have b3:Below w.heap.size w (w2.alloc (.cells #[.pointer p0, .pointer p1] 202)):=(ah h1 h1.size h2).alloc (by have:=h1.size;omega) _;have hm':(nums R).length≤many:=by simp only [QR.all,List.length_append] at hm⊢;omega
  have hsub: ∀x∈nums R,x∈QR.all ⟨nums R,nums F⟩:=fun x hx=>dx.2 (.inl hx);have hrd:Rd (w2.alloc (.cells #[.pointer p0, .pointer p1] 202)) w2.heap.size 0 [(⟨rb,0,none⟩,R)]:=fun i r hr=>by
   match i,hr with
   |0,hr=>
    injection hr with hr;subst hr
    exact ⟨by rw [bn.cell];simp [e0],by rw [bn.cell];simp [e1],sR.grew b3⟩
   |i+1,hr=>simp at hr
  refine (rD _ hrd rfl (by simp) (Nat.le_trans (by simp [eZ]) hm')).mono fun e w' ⟨v,k1,k2,k3,k4⟩=>⟨v,k1,⟨?_, ?_⟩,fun k hk=> ?_,ah b3 b3.size k4⟩
  · have:=k2.arr (fun x hx=>h5 x (hsub x (by simpa [eZ] using hx)))
    simpa [eZ] using this
  · simpa [eZ] using k2
  · have:=k3 k hk;have:=b3.size;omega
 unfold rowV at K;rw [e0,e1,e2,e3] at K;clear hb hp hc sR sF h5 e0 e1 e2 e3 hm;show Calls _ _ _ _ fun e w'=> ∃v,e= .returned v∧(iF w' v (nums R)∧Vec Elem.ints w' v (nums R))∧(∀k,In v k→w.heap.size≤k)∧Below w.heap.size w w';go_enter Tryz.func111,Tryz.ntmps111
 go_wp2_with fail
 refine K.out.mono ?_;rintro e w1 ⟨rfl,hb⟩;have B:=Lib.hid hb;clear hb c0;go_wp2_with fail
 refine (T.out w1 _ _ ?_ B.out ?_ ?_).mono ?_
 · simp [World.size_alloc]
 · exact ((Below.refl _ w1).alloc (Nat.le_refl _) _).alloc (by rw [World.size_alloc];omega) _
 · simp only [World.size_alloc];omega
 · rintro e w3 ⟨v,rfl,h⟩
   have H:=Lib.hid h;clear h;go_wp2;go_ret;exact ⟨v,rfl,H.out⟩
theorem aa_ (w:World) {b:Nat} {O:Nat→Prop} {S:QR} (h:FJ w b O S) (hm:S.all.length≤many):
 Calls Tryz.prog 101 #[.pointer (some ⟨b,0,none⟩)] w fun e w'=> ∃v,e= .returned v∧(iF w' v S.all∧Vec Elem.ints w' v S.all)∧(∀k,In v k→w.heap.size≤k)∧Below w.heap.size w w':=by
 obtain ⟨p,Or,hb,hp,-,-,-,-,h5⟩:=h;obtain ⟨rb,R,F,rfl,sR,sF,hc⟩:=wD hp;have c0:w.cell? ⟨b,0,none⟩=some (.pointer p):=hb.cell 0;have K:=Lib.hid hc;obtain ⟨p0,e0⟩: ∃y,dP R none=y:=⟨_,rfl⟩;obtain ⟨p1,e1⟩: ∃y,fq R none=y:=⟨_,rfl⟩;obtain ⟨p2,e2⟩: ∃y,dP F none=y:=⟨_,rfl⟩;obtain ⟨p3,e3⟩: ∃y,fq F none=y:=⟨_,rfl⟩;have T:Hid (∀w1 w2 g,g=w2.heap.size→Below w.heap.size w w1→Below w1.heap.size w1 w2→w1.heap.size≤w2.heap.size→Calls Tryz.prog 141 #[.slice (some ⟨g,0,none⟩) 2 2] (w2.alloc (.cells #[.pointer p0, .pointer p1, .pointer p2, .pointer p3] 202)) fun e w'=> ∃v,e= .returned v∧(iF w' v (nums R++nums F)∧Vec Elem.ints w' v (nums R++nums F))∧(∀k,In v k→w.heap.size≤k)∧Below w.heap.size w w'):=Lib.hid fun w1 w2 g hg h1 h2 hs=>by
  subst hg;have bn:=aV.new w2 202 #[.pointer p0, .pointer p1, .pointer p2, .pointer p3];have b3:Below w.heap.size w (w2.alloc (.cells #[.pointer p0, .pointer p1, .pointer p2, .pointer p3] 202)):=(ah h1 h1.size h2).alloc (by have:=h1.size;omega) _;have hm':(nums R++nums F).length≤many:=by simp only [QR.all,List.length_append] at hm⊢;omega
  have hsub: ∀x∈nums R++nums F,x∈QR.all ⟨nums R,nums F⟩:=fun x hx=>by simpa [QR.all] using hx
  have hrd:Rd (w2.alloc (.cells #[.pointer p0, .pointer p1, .pointer p2, .pointer p3] 202)) w2.heap.size 0 [(⟨rb,0,none⟩,R),(⟨rb,2,none⟩,F)]:=fun i r hr=>by
   match i,hr with
   |0,hr=>
    injection hr with hr;subst hr
    exact ⟨by rw [bn.cell];simp [e0],by rw [bn.cell];simp [e1],sR.grew b3⟩
   |1,hr=>
    injection hr with hr;subst hr
    exact ⟨by rw [bn.cell];simp [e2],by rw [bn.cell];simp [e3],sF.grew b3⟩
   |i+2,hr=>simp at hr
  refine (rD _ hrd rfl (by simp) (Nat.le_trans (by simp [eZ]) hm')).mono fun e w' ⟨v,k1,k2,k3,k4⟩=>⟨v,k1,⟨?_, ?_⟩,fun k hk=> ?_,ah b3 b3.size k4⟩
  · have:=k2.arr (fun x hx=>h5 x (hsub x (by simpa [eZ] using hx)))
    simpa [eZ] using this
  · simpa [eZ] using k2
  · have:=k3 k hk;have:=b3.size;omega
 unfold rowV at K;rw [e0,e1,e2,e3] at K;clear hb hp hc sR sF h5 e0 e1 e2 e3 hm;show Calls _ _ _ _ fun e w'=> ∃v,e= .returned v∧(iF w' v (nums R++nums F)∧Vec Elem.ints w' v (nums R++nums F))∧(∀k,In v k→w.heap.size≤k)∧Below w.heap.size w w';go_enter Tryz.func101,Tryz.ntmps101
 go_wp2_with fail
 refine K.out.mono ?_;rintro e w1 ⟨rfl,hb⟩;have B:=Lib.hid hb;clear hb c0;go_wp2_with fail
 refine (T.out w1 _ _ ?_ B.out ?_ ?_).mono ?_
 · simp [World.size_alloc]
 · exact ((Below.refl _ w1).alloc (Nat.le_refl _) _).alloc (by rw [World.size_alloc];omega) _
 · simp only [World.size_alloc];omega
 · rintro e w3 ⟨v,rfl,h⟩
   have H:=Lib.hid h;clear h;go_wp2;go_ret;exact ⟨v,rfl,H.out⟩
end Go.Proofs.YtpibbcnkgdmcbaaGreatDoor
namespace Go.Proofs.YtpibbcnkgdmcbaaGreatDoor
open Go.RowKit Go.Maps aB
theorem dA.step {S T:Nat→Prop} {C:Nat→Nat→Prop} {a b c:World} (h:dA S C a b) (u:aH T b c) (hs: ∀i,T i→S i∨a.heap.size≤i):dA S C a c:=by
 refine ⟨h.upd.step u fun i hi=>(hs i hi).imp .inl id,fun x hx t cs hb=> ?_⟩;obtain ⟨c1,b1,s1,e1⟩:=h.blk x hx t cs hb;refine ⟨c1,b1.upd u fun ht=> ?_,s1,e1⟩;rcases hs x ht with y|y
 · exact hx y
 · have:=hb.lt;omega
def QC (w:World) (b o:Nat) (p:Option Addr):Prop:= ∃t cs,aV w b t cs∧cs[o]? =some (.pointer p)
def zy (b o:Nat) (x i:Nat):Prop:=x=b∧i=o
section
variable {w w':World} {b o:Nat} {p p':Option Addr} {S:Nat→Prop} {C:Nat→Nat→Prop}
theorem QC.c (h:QC w b o p):w.cell? ⟨b,o,none⟩=some (.pointer p):=by obtain ⟨t,cs,hb,e⟩:=h;rw [hb.cell];exact e
theorem QC.z (h:QC w b o p):w.frozen? ⟨b,o,none⟩=false:=by obtain ⟨t,cs,hb,e⟩:=h;exact hb.frozen o
theorem QC.lt (h:QC w b o p):b<w.heap.size:=by obtain ⟨t,cs,hb,e⟩:=h;exact hb.lt
theorem QC.upd (h:QC w b o p) (u:aH S w w') (hs: ¬S b):QC w' b o p:=by obtain ⟨t,cs,hb,e⟩:=h;exact ⟨t,cs,hb.upd u hs,e⟩
theorem QC.keep (h:QC w b o p) (u:dA S C w w') (hs: ¬S b) (hc: ¬C b o):QC w' b o p:=by
 obtain ⟨t,cs,hb,e⟩:=h;obtain ⟨cs',hb',_,e'⟩:=u.blk b hs t cs hb;exact ⟨t,cs',hb',by rw [e' o hc];exact e⟩
theorem QC.put (h:QC w b o p):QC (w.setCell ⟨b,o,none⟩ (.pointer p')) b o p':=by
 obtain ⟨t,cs,hb,e⟩:=h;obtain ⟨x,_⟩:=Array.getElem?_eq_some_iff.1 e;exact ⟨t,_,hb.put o _,Array.getElem?_setIfInBounds_self_of_lt x⟩
end
structure o_ (w:World) (b o:Nat) (p:Option Addr) (O:Nat→Prop) (S:QR):Prop where
 c:QC w b o p
 ps:PS w p O S
 nb: ¬O b
 lt: ∀k,O k→k<w.heap.size
 i64: ∀x∈S.all,gy x
theorem o_.upd {w w':World} {b o:Nat} {p:Option Addr} {O T:Nat→Prop} {S:QR} (h:o_ w b o p O S) (u:aH T w w') (hT: ∀k,T k→k≠b∧ ¬O k):o_ w' b o p O S:=
 ⟨h.c.upd u fun x=>(hT b x).1 rfl,h.ps.upd u fun k hk=>(hT k hk).2,h.nb,fun k hk=>Nat.lt_of_lt_of_le (h.lt k hk) u.size,h.i64⟩
theorem o_.keep {w w':World} {b o:Nat} {p:Option Addr} {O T:Nat→Prop} {C:Nat→Nat→Prop} {S:QR} (h:o_ w b o p O S) (u:dA T C w w') (hT: ∀k,T k→k≠b∧ ¬O k) (hC: ∀x i,C x i→x=b∧i≠o):o_ w' b o p O S:=
 ⟨h.c.keep u (fun x=>(hT b x).1 rfl) (fun x=>(hC b o x).2 rfl),h.ps.upd u.upd fun k hk=>by
  rcases hk with hk|⟨i,hk⟩
  · exact (hT k hk).2
  · rw [(hC k i hk).1];exact h.nb,h.nb,fun k hk=>Nat.lt_of_lt_of_le (h.lt k hk) u.upd.size,h.i64⟩
def kM (w:World) (b o:Nat) (O:Nat→Prop) (S':QR) (a:Int) (e:Ending) (w':World):Prop:=
 e= .returned (.int .i64 a)∧ ∃p' O',o_ w' b o p' O' S'∧(∀k,O' k→O k∨w.heap.size≤k)∧dA O (zy b o) w w'
def Kt (w:World) (f:QR→List Int→QR×Int) (b o:Nat) (p:Option Addr) (O:Nat→Prop) (S:QR) (l:List Int) (i:Value) (wr:World):Prop:=
 ∃(t:Nat) (S1:QR) (O1:Nat→Prop),t≤l.length∧i= .int .i64 (t:Int)∧f S l=f S1 (l.drop t)∧o_ wr b o p O1 S1∧(∀k,O1 k→O k∨w.heap.size≤k)∧S1.all.length≤S.all.length+t∧dA O (zy b o) w wr
section
variable {w wr w':World} {f:QR→List Int→QR×Int} {b o:Nat} {p:Option Addr} {O O1:Nat→Prop} {S S1 S2:QR} {l:List Int} {t:Nat} {a:Int} {e:Ending}
theorem o_.after (h:o_ wr b o p O1 S1) (h2: ∀k,O1 k→O k∨w.heap.size≤k) (u:dA O (zy b o) w wr) (hq:dG wr p O1 S2 a e w') (h5: ∀x∈S2.all,gy x):
 ∃O2,o_ w' b o p O2 S2∧(∀k,O2 k→O k∨w.heap.size≤k)∧dA O (zy b o) w w':=by
 obtain ⟨e1,O2,k1,k2,k3,u2⟩:=hq;have us:=u.upd.size;refine ⟨O2,⟨h.c.upd u2 h.nb,k1,fun hh=> ?_,fun k hk=> ?_,h5⟩,fun k hk=> ?_,u.step u2 h2⟩
 · rcases k3 b hh with x|x
   · exact h.nb x
   · have:=h.c.lt;omega
 · rcases k3 k hk with x|x
   · have:=h.lt k x;have:=u2.size;omega
   · exact x.2
 · rcases k3 k hk with x|x
   · exact h2 k x
   · exact .inr (by omega)
theorem Kt.next (h:o_ wr b o p O1 S1) (h2: ∀k,O1 k→O k∨w.heap.size≤k) (u:dA O (zy b o) w wr) (hq:dG wr p O1 S2 a e w') (ht:t+1≤l.length) (hf:f S l=f S2 (l.drop (t+1))) (h5: ∀x∈S2.all,gy x) (hl:S2.all.length≤S.all.length+(t+1)):
 Kt w f b o p O S l (.int .i64 ((t+1:Nat):Int)) w':=by
 obtain ⟨O2,k1,k2,k3⟩:=h.after h2 u hq h5;exact ⟨t+1,S2,O2,ht,rfl,hf,k1,k2,hl,k3⟩
theorem o_.stop (h:o_ wr b o p O1 S1) (h2: ∀k,O1 k→O k∨w.heap.size≤k) (u:dA O (zy b o) w wr) (hq:dG wr p O1 S2 a e w') (h5: ∀x∈S2.all,gy x):
 ∃p' O',o_ w' b o p' O' S2∧(∀k,O' k→O k∨w.heap.size≤k)∧dA O (zy b o) w w':=by
 obtain ⟨O2,k1,k2,k3⟩:=h.after h2 u hq h5;exact ⟨p,O2,k1,k2,k3⟩
end
theorem TA (w:World) {b o:Nat} {p:Option Addr} {O:Nat→Prop} {S:QR} {x:Int} (h:o_ w b o p O S) (hx:gy x):
 Calls Tryz.prog 115 #[.pointer (some ⟨b,o,none⟩), .int .i64 x] w fun e w'=>kM w b o O (eO S x).1 (eO S x).2 e w':=by
 have c0:w.cell? ⟨b,o,none⟩=some (.pointer p):=h.c.c;obtain ⟨S',hS'⟩: ∃y,(eO S x).1=y:=⟨_,rfl⟩;obtain ⟨a,ha⟩: ∃y,(eO S x).2=y:=⟨_,rfl⟩;have K:=Lib.hid ((TM h.ps hx).mono fun e w' hq=>show kM w b o O (eO S x).1 (eO S x).2 e w' from ⟨hq.1,h.stop (fun k=> .inl) (dA.refl _ _ _) hq (fP h.i64 hx).2.2.1⟩);unfold kM at K⊢;rw [hS',ha] at K;rw [hS',ha];clear h hS' ha;go_enter Tryz.func115,Tryz.ntmps115
 go_wp2_with fail
 refine K.out.mono ?_;rintro e w1 ⟨rfl,hq⟩;have Q:=Lib.hid hq;clear hq c0;go_wp2;go_ret;exact ⟨rfl,Q.out⟩
theorem Tx (w:World) {b o:Nat} {p:Option Addr} {O:Nat→Prop} {S:QR} {x:Int} (h:o_ w b o p O S) (hx:gy x):
 Calls Tryz.prog 157 #[.pointer (some ⟨b,o,none⟩), .int .i64 x] w fun e w'=>kM w b o O (dK S x).1 (dK S x).2 e w':=by
 have c0:w.cell? ⟨b,o,none⟩=some (.pointer p):=h.c.c;obtain ⟨S',hS'⟩: ∃y,(dK S x).1=y:=⟨_,rfl⟩;obtain ⟨a,ha⟩: ∃y,(dK S x).2=y:=⟨_,rfl⟩;have K:=Lib.hid ((TK h.ps hx).mono fun e w' hq=>show kM w b o O (dK S x).1 (dK S x).2 e w' from ⟨hq.1,h.stop (fun k=> .inl) (dA.refl _ _ _) hq (fP h.i64 hx).2.2.2⟩);unfold kM at K⊢;rw [hS',ha] at K;rw [hS',ha];clear h hS' ha;go_enter Tryz.func157,Tryz.ntmps157
 go_wp2_with fail
 refine K.out.mono ?_;rintro e w1 ⟨rfl,hq⟩;have Q:=Lib.hid hq;clear hq c0;go_wp2;go_ret;exact ⟨rfl,Q.out⟩
theorem Ad (w:World) {b o:Nat} {p:Option Addr} {O:Nat→Prop} {S:QR} {v:Value} {l:List Int} (h:o_ w b o p O S) (hv:iF w v l) (hn:CY v l fun k=>O k∨k=b):
 Calls Tryz.prog 113 #[.pointer (some ⟨b,o,none⟩),v] w fun e w'=>kM w b o O (aX S l).1 (aX S l).2 e w':=by
 unfold kM;obtain ⟨a,c,rfl,hc1,hc2⟩:=hv.out;obtain ⟨n,hnl⟩: ∃n,l.length=n:=⟨_,rfl⟩;have hn:CY (.slice a l.length c) l fun k=>O k∨ ∃i,zy b o k i:=hn.imp id fun h k hk hx=>h k hk (hx.imp id fun ⟨i,e,_⟩=>e);rw [hnl] at hv hn hc1⊢;have VA:=Lib.hid hv;have VN:=Lib.hid hn;have HL:=Lib.hid hnl;have I0:Hid (Kt w aX b o p O S l (.int .i64 0) w):=Lib.hid ⟨0,S,O,Nat.zero_le _,rfl,rfl,h,fun k=> .inl,Nat.le_refl _,dA.refl _ _ _⟩;clear h hv hn hnl;go_enter Tryz.func113,Tryz.ntmps113
 go_wp2;go_loopw [12] (fun i wr=>Kt w aX b o p O S l i wr) (fun i _=>n-(intOf i).toNat)
 case atStart=>exact I0.out
 case round=>
  clear I0;obtain ⟨t,S1,O1,ht,rfl,hf,hQ,h2,hl,u⟩:=hrel;rw [HL.out] at ht;by_cases htn:t<n
  · obtain ⟨b3,LG,x,ea,hx,hxm,fM,d0⟩:=(VA.out.Dh u.upd VN.out).at (t:=t) (by rw [HL.out];exact htn)
    subst ea;have c0:wr.cell? ⟨b,o,none⟩=some (.pointer p):=hQ.c.c
    skip
    have K1:=Af hQ.ps fM;have ed:l.drop t=x::l.drop (t+1):=List.drop_eq_getElem?_toList_append.trans (by rw [hx];rfl);have hg:=fP hQ.i64 fM;have t2:decide ((t:Int)<(n:Int))=true:=decide_eq_true (by omega);have t2':decide (t<n)=true:=decide_eq_true htn;have q3:(0:Int)≤(t:Int):=by omega
    have q4:(t:Int)<(n:Int):=by omega
    by_cases hm:x∈S1.all
    · rw [dW hm] at K1
      have NX:Hid (∀e w',dG wr p O1 ⟨aB.out S1.R x,aB.out S1.F x⟩ 0 e w'→Kt w aX b o p O S l (.int .i64 ((t+1:Nat):Int)) w'):=Lib.hid fun e w' hq=>Kt.next hQ h2 u hq (by rw [HL.out];omega) (by rw [hf,ed];exact if_pos hm) (by have:=hg.2.1;rw [dW hm] at this;exact this) (by have y1:=pO S1.R x;have y2:=pO S1.F x;simp only [QR.all,List.length_append] at hl⊢;omega)
      have K:=Lib.hid (K1.mono fun e w' hq=>hq.un);rw [show ((t+1:Nat):Int)=(t:Int)+1 by omega] at NX;clear hf hQ h2 hl u hg K1 ed hx hxm fM hm;go_wp2_with fail
      refine K.out.mono ?_;rintro e w1 ⟨rfl,hq⟩;have N1:=Lib.hid (NX.out _ _ hq);clear hq c0;go_wp2;go_roundw
      case rel=>exact N1.out
      case measure=>simp [intOf];omega
    · rw [fO hm] at K1
      have K:=Lib.hid (K1.mono fun e w' hq=>hq.un);have FIN:Hid (aX S l=(S1,5)∧ ∀e w',dG wr p O1 S1 5 e w'→ ∃p' O',o_ w' b o p' O' S1∧(∀k,O' k→O k∨w.heap.size≤k)∧dA O (zy b o) w w'):=Lib.hid ⟨by rw [hf,ed];exact if_neg hm,fun e w' hq=>by
       exact hQ.stop h2 u hq hQ.i64⟩
      clear hf hQ h2 hl u hg K1 ed hx hxm fM hm;go_wp2_with fail
      refine K.out.mono ?_;rintro e w1 ⟨rfl,hq⟩;have N1:=Lib.hid (FIN.out.2 _ _ hq);have EQ:=Lib.hid FIN.out.1;clear hq c0;go_wp2;go_ret;rw [EQ.out];exact ⟨rfl,N1.out⟩
  · obtain rfl:t=n:=by omega
    have t2:decide ((t:Int)<(t:Int))=false:=decide_eq_false (by omega);have Q:=Lib.hid (show ∃p' O',o_ wr b o p' O' S1∧(∀k,O' k→O k∨w.heap.size≤k)∧dA O (zy b o) w wr from ⟨_,_,hQ,h2,u⟩);have e9:l.drop t= []:=List.drop_eq_nil_of_le (by rw [HL.out];exact Nat.le_refl _);have HF:=Lib.hid hf;have E9:=Lib.hid e9;clear hf hQ h2 hl u e9;go_wp2;go_ret;rw [HF.out,E9.out];exact ⟨rfl,Q.out⟩
theorem Tz (w:World) {b o:Nat} {p:Option Addr} {O:Nat→Prop} {S:QR} {v:Value} {l:List Int} (h:o_ w b o p O S) (hv:iF w v l) (hn:CY v l fun k=>O k∨k=b) (sj:S.all.length+l.length≤many):
 Calls Tryz.prog 153 #[.pointer (some ⟨b,o,none⟩),v] w fun e w'=>kM w b o O (bK S l).1 (bK S l).2 e w':=by
 unfold kM;obtain ⟨a,c,rfl,hc1,hc2⟩:=hv.out;obtain ⟨n,hnl⟩: ∃n,l.length=n:=⟨_,rfl⟩;have hn:CY (.slice a l.length c) l fun k=>O k∨ ∃i,zy b o k i:=hn.imp id fun h k hk hx=>h k hk (hx.imp id fun ⟨i,e,_⟩=>e);rw [hnl] at hv hn hc1 sj⊢;have VA:=Lib.hid hv;have VN:=Lib.hid hn;have HL:=Lib.hid hnl;have HMA:=Lib.hid sj;have c0:w.cell? ⟨b,o,none⟩=some (.pointer p):=h.c.c;rcases id h.ps with ⟨rfl,rfl⟩|⟨rb,rfl,hN⟩
 · have z0:w.frozen? ⟨b,o,none⟩=false:=h.c.z
   have hmm:= @run_makeMap Tryz.prog;have hsz:=h.c.lt;have ne1:w.heap.size≠b:=by omega
   have ne2:w.heap.size+1≠b:=by omega
   obtain ⟨m,hm⟩: ∃y,w.heap.size=y:=⟨_,rfl⟩;obtain ⟨rb,hrb⟩: ∃y,m+1=y:=⟨_,rfl⟩;obtain ⟨W2,hW2⟩: ∃y,(w.alloc (.map #[] 0)).alloc (.cells #[.pointer none, .pointer none, .pointer none, .pointer none, .map (some m)] 224)=y:=⟨_,rfl⟩;have sz2:W2.heap.size=m+2:=by rw [←hW2];simp [hm]
   have u2:aH (fun _=>False) w W2:=by rw [←hW2];exact ((aH.refl _ w).alloc _).alloc _
   have bq:QC (W2.setCell ⟨b,o,none⟩ (.pointer (some ⟨rb,0,none⟩))) b o (some ⟨rb,0,none⟩):=(h.c.upd u2 id).put;have br:aV W2 rb 224 #[.pointer none, .pointer none, .pointer none, .pointer none, .map (some m)]:=by rw [←hW2,←hrb,←hm];have:=aV.new (w.alloc (.map #[] 0)) 224 #[.pointer none, .pointer none, .pointer none, .pointer none, .map (some w.heap.size)];rw [World.size_alloc] at this;exact this
   have hM:W2.ownsMap Tryz.prog 3 iU m 0 (.map []):=by rw [←hW2,←hm];exact (World.ownsMap_made w _ _ _).alloc _
   have c2:W2.cell? ⟨b,o,none⟩=some (.pointer none):=(h.c.upd u2 id).c;have z2:W2.frozen? ⟨b,o,none⟩=false:=(h.c.upd u2 id).z;have us:=(aH.refl (fun k=>k=b) W2).setCell (p:=⟨b,o,none⟩) (.inl rfl) (.pointer (some ⟨rb,0,none⟩));have I0:Hid (Kt w bK b o (some ⟨rb,0,none⟩) O q0 l (.int .i64 0) (W2.setCell ⟨b,o,none⟩ (.pointer (some ⟨rb,0,none⟩)))):=Lib.hid ⟨0,q0,fun k=>k=m∨k=rb,Nat.zero_le _,rfl,rfl,⟨bq,
    .inr ⟨rb,rfl,m, [], [],⟨br.upd us (fun e=>by omega),trivial,trivial,⟨.map [],gU hM us (fun e=>by omega),Bc⟩,List.nodup_nil,List.nodup_nil,(fun e he=>by cases he),(by omega),(fun e he=>by cases he)⟩,rfl, .inr rfl, .inl rfl,(fun e he=>by cases he)⟩,
    (fun hh=>by rcases hh with e|e<;>omega),(fun k hk=>(by rw [World.size_setCell,sz2];rcases hk with e|e<;>omega)),(fun x hx=>by cases hx)⟩,(fun k hk=> .inr (by rcases hk with e|e<;>omega)),Nat.le_refl _,(dA.JL (u2.mono fun _ x=>x.elim)).setCell (C:=zy b o) ⟨rfl,rfl⟩ _⟩
   clear h hv hn hnl sj br hM us bq u2;go_enter Tryz.func153,Tryz.ntmps153
   go_wp2;go_loopw [23] (fun i wr=>Kt w bK b o (some ⟨rb,0,none⟩) O q0 l i wr) (fun i _=>n-(intOf i).toNat)
   case atStart=>exact I0.out
   case round=>
    clear I0;obtain ⟨t,S1,O1,ht,rfl,hf,hQ,h2,hl,u⟩:=hrel;rw [HL.out] at ht;by_cases htn:t<n
    · obtain ⟨b3,LG,x,ea,hx,hxm,fM,d0⟩:=(VA.out.Dh u.upd VN.out).at (t:=t) (by rw [HL.out];exact htn)
      subst ea;have c0:wr.cell? ⟨b,o,none⟩=some (.pointer (some ⟨rb,0,none⟩)):=hQ.c.c;have Qp:S1.all.length≤many:=by have:=HMA.out;omega
      have K1:=wC hQ.ps fM Qp;have ed:l.drop t=x::l.drop (t+1):=List.drop_eq_getElem?_toList_append.trans (by rw [hx];rfl);have hg:=fP hQ.i64 fM;have t2:decide ((t:Int)<(n:Int))=true:=decide_eq_true (by omega);have t2':decide (t<n)=true:=decide_eq_true htn;have q3:(0:Int)≤(t:Int):=by omega
      have q4:(t:Int)<(n:Int):=by omega
      by_cases hm:x∈S1.all
      · rw [gT hm] at K1
        have K:=Lib.hid (K1.mono fun e w' hq=>hq.un);have FIN:Hid (bK q0 l=(S1,6)∧ ∀e w',dG wr (some ⟨rb,0,none⟩) O1 S1 6 e w'→ ∃p' O',o_ w' b o p' O' S1∧(∀k,O' k→O k∨w.heap.size≤k)∧dA O (zy b o) w w'):=Lib.hid ⟨by rw [hf,ed];exact if_pos hm,fun e w' hq=>by
         exact hQ.stop h2 u hq hQ.i64⟩
        clear hf hQ h2 hl u hg K1 ed hx hxm fM hm;go_wp2_with fail
        refine K.out.mono ?_;rintro e w1 ⟨rfl,hq⟩;have N1:=Lib.hid (FIN.out.2 _ _ hq);have EQ:=Lib.hid FIN.out.1;clear hq c0;go_wp2;go_ret;rw [EQ.out];exact ⟨rfl,N1.out⟩
      · rw [fB hm] at K1
        have NX:Hid (∀e w',dG wr (some ⟨rb,0,none⟩) O1 ⟨S1.R++ [x],S1.F⟩ 0 e w'→Kt w bK b o (some ⟨rb,0,none⟩) O q0 l (.int .i64 ((t+1:Nat):Int)) w'):=Lib.hid fun e w' hq=>Kt.next hQ h2 u hq (by rw [HL.out];omega) (by rw [hf,ed];exact if_neg hm) (by have:=hg.1;rw [fB hm] at this;exact this) (by simp only [QR.all,List.length_append,List.length_cons,List.length_nil] at hl⊢;omega)
        have K:=Lib.hid (K1.mono fun e w' hq=>hq.un);rw [show ((t+1:Nat):Int)=(t:Int)+1 by omega] at NX;clear hf hQ h2 hl u hg K1 ed hx hxm fM hm;go_wp2_with fail
        refine K.out.mono ?_;rintro e w1 ⟨rfl,hq⟩;have N1:=Lib.hid (NX.out _ _ hq);clear hq c0;go_wp2;go_roundw
        case rel=>exact N1.out
        case measure=>simp [intOf];omega
    · obtain rfl:t=n:=by omega
      have t2:decide ((t:Int)<(t:Int))=false:=decide_eq_false (by omega);have Q:=Lib.hid (show ∃p' O',o_ wr b o p' O' S1∧(∀k,O' k→O k∨w.heap.size≤k)∧dA O (zy b o) w wr from ⟨_,_,hQ,h2,u⟩);have e9:l.drop t= []:=List.drop_eq_nil_of_le (by rw [HL.out];exact Nat.le_refl _);have HF:=Lib.hid hf;have E9:=Lib.hid e9;clear hf hQ h2 hl u e9;go_wp2;go_ret;rw [HF.out,E9.out];exact ⟨rfl,Q.out⟩
 · have I0:Hid (Kt w bK b o (some ⟨rb,0,none⟩) O S l (.int .i64 0) w):=Lib.hid ⟨0,S,O,Nat.zero_le _,rfl,rfl,h,fun k=> .inl,Nat.le_refl _,dA.refl _ _ _⟩
   clear h hv hn hnl sj hN;go_enter Tryz.func153,Tryz.ntmps153
   go_wp2;go_loopw [23] (fun i wr=>Kt w bK b o (some ⟨rb,0,none⟩) O S l i wr) (fun i _=>n-(intOf i).toNat)
   case atStart=>exact I0.out
   case round=>
    clear I0;obtain ⟨t,S1,O1,ht,rfl,hf,hQ,h2,hl,u⟩:=hrel;rw [HL.out] at ht;by_cases htn:t<n
    · obtain ⟨b3,LG,x,ea,hx,hxm,fM,d0⟩:=(VA.out.Dh u.upd VN.out).at (t:=t) (by rw [HL.out];exact htn)
      subst ea;have c0:wr.cell? ⟨b,o,none⟩=some (.pointer (some ⟨rb,0,none⟩)):=hQ.c.c;have Qp:S1.all.length≤many:=by have:=HMA.out;omega
      have K1:=wC hQ.ps fM Qp;have ed:l.drop t=x::l.drop (t+1):=List.drop_eq_getElem?_toList_append.trans (by rw [hx];rfl);have hg:=fP hQ.i64 fM;have t2:decide ((t:Int)<(n:Int))=true:=decide_eq_true (by omega);have t2':decide (t<n)=true:=decide_eq_true htn;have q3:(0:Int)≤(t:Int):=by omega
      have q4:(t:Int)<(n:Int):=by omega
      by_cases hm:x∈S1.all
      · rw [gT hm] at K1
        have K:=Lib.hid (K1.mono fun e w' hq=>hq.un);have FIN:Hid (bK S l=(S1,6)∧ ∀e w',dG wr (some ⟨rb,0,none⟩) O1 S1 6 e w'→ ∃p' O',o_ w' b o p' O' S1∧(∀k,O' k→O k∨w.heap.size≤k)∧dA O (zy b o) w w'):=Lib.hid ⟨by rw [hf,ed];exact if_pos hm,fun e w' hq=>by
         exact hQ.stop h2 u hq hQ.i64⟩
        clear hf hQ h2 hl u hg K1 ed hx hxm fM hm;go_wp2_with fail
        refine K.out.mono ?_;rintro e w1 ⟨rfl,hq⟩;have N1:=Lib.hid (FIN.out.2 _ _ hq);have EQ:=Lib.hid FIN.out.1;clear hq c0;go_wp2;go_ret;rw [EQ.out];exact ⟨rfl,N1.out⟩
      · rw [fB hm] at K1
        have NX:Hid (∀e w',dG wr (some ⟨rb,0,none⟩) O1 ⟨S1.R++ [x],S1.F⟩ 0 e w'→Kt w bK b o (some ⟨rb,0,none⟩) O S l (.int .i64 ((t+1:Nat):Int)) w'):=Lib.hid fun e w' hq=>Kt.next hQ h2 u hq (by rw [HL.out];omega) (by rw [hf,ed];exact if_neg hm) (by have:=hg.1;rw [fB hm] at this;exact this) (by simp only [QR.all,List.length_append,List.length_cons,List.length_nil] at hl⊢;omega)
        have K:=Lib.hid (K1.mono fun e w' hq=>hq.un);rw [show ((t+1:Nat):Int)=(t:Int)+1 by omega] at NX;clear hf hQ h2 hl u hg K1 ed hx hxm fM hm;go_wp2_with fail
        refine K.out.mono ?_;rintro e w1 ⟨rfl,hq⟩;have N1:=Lib.hid (NX.out _ _ hq);clear hq c0;go_wp2;go_roundw
        case rel=>exact N1.out
        case measure=>simp [intOf];omega
    · obtain rfl:t=n:=by omega
      have t2:decide ((t:Int)<(t:Int))=false:=decide_eq_false (by omega);have Q:=Lib.hid (show ∃p' O',o_ wr b o p' O' S1∧(∀k,O' k→O k∨w.heap.size≤k)∧dA O (zy b o) w wr from ⟨_,_,hQ,h2,u⟩);have e9:l.drop t= []:=List.drop_eq_nil_of_le (by rw [HL.out];exact Nat.le_refl _);have HF:=Lib.hid hf;have E9:=Lib.hid e9;clear hf hQ h2 hl u e9;go_wp2;go_ret;rw [HF.out,E9.out];exact ⟨rfl,Q.out⟩
theorem OZ (w:World) {b o:Nat} {p:Option Addr} {O:Nat→Prop} {S:QR} (h:o_ w b o p O S) (hm:S.all.length≤many):
 Calls Tryz.prog 111 #[.pointer (some ⟨b,o,none⟩)] w fun e w'=> ∃v,e= .returned v∧(iF w' v S.R∧Vec Elem.ints w' v S.R)∧(∀k,In v k→w.heap.size≤k)∧Below w.heap.size w w':=by
 have hb:=h.c;have hp:=h.ps;have h5:=h.i64;clear h;obtain ⟨rb,R,F,rfl,sR,sF,hc⟩:=wD hp;have c0:w.cell? ⟨b,o,none⟩=some (.pointer p):=hb.c;have K:=Lib.hid hc;obtain ⟨p0,e0⟩: ∃y,dP R none=y:=⟨_,rfl⟩;obtain ⟨p1,e1⟩: ∃y,fq R none=y:=⟨_,rfl⟩;obtain ⟨p2,e2⟩: ∃y,dP F none=y:=⟨_,rfl⟩;obtain ⟨p3,e3⟩: ∃y,fq F none=y:=⟨_,rfl⟩;have T:Hid (∀w1 w2 g,g=w2.heap.size→Below w.heap.size w w1→Below w1.heap.size w1 w2→w1.heap.size≤w2.heap.size→Calls Tryz.prog 141 #[.slice (some ⟨g,0,none⟩) 1 1] (w2.alloc (.cells #[.pointer p0, .pointer p1] 202)) fun e w'=> ∃v,e= .returned v∧(iF w' v (nums R)∧Vec Elem.ints w' v (nums R))∧(∀k,In v k→w.heap.size≤k)∧Below w.heap.size w w'):=Lib.hid fun w1 w2 g hg h1 h2 hs=>by
  subst hg;have bn:=aV.new w2 202 #[.pointer p0, .pointer p1];have b3:Below w.heap.size w (w2.alloc (.cells #[.pointer p0, .pointer p1] 202)):=(ah h1 h1.size h2).alloc (by have:=h1.size;omega) _;have hm':(nums R).length≤many:=by simp only [QR.all,List.length_append] at hm⊢;omega
  have hsub: ∀x∈nums R,x∈QR.all ⟨nums R,nums F⟩:=fun x hx=>dx.2 (.inl hx);have hrd:Rd (w2.alloc (.cells #[.pointer p0, .pointer p1] 202)) w2.heap.size 0 [(⟨rb,0,none⟩,R)]:=fun i r hr=>by
   match i,hr with
   |0,hr=>
    injection hr with hr;subst hr
    exact ⟨by rw [bn.cell];simp [e0],by rw [bn.cell];simp [e1],sR.grew b3⟩
   |i+1,hr=>simp at hr
  refine (rD _ hrd rfl (by simp) (Nat.le_trans (by simp [eZ]) hm')).mono fun e w' ⟨v,k1,k2,k3,k4⟩=>⟨v,k1,⟨?_, ?_⟩,fun k hk=> ?_,ah b3 b3.size k4⟩
  · have:=k2.arr (fun x hx=>h5 x (hsub x (by simpa [eZ] using hx)))
    simpa [eZ] using this
  · simpa [eZ] using k2
  · have:=k3 k hk;have:=b3.size;omega
 unfold rowV at K;rw [e0,e1,e2,e3] at K;clear hb hp hc sR sF h5 e0 e1 e2 e3 hm;show Calls _ _ _ _ fun e w'=> ∃v,e= .returned v∧(iF w' v (nums R)∧Vec Elem.ints w' v (nums R))∧(∀k,In v k→w.heap.size≤k)∧Below w.heap.size w w';go_enter Tryz.func111,Tryz.ntmps111
 go_wp2_with fail
 refine K.out.mono ?_;rintro e w1 ⟨rfl,hb⟩;have B:=Lib.hid hb;clear hb c0;go_wp2_with fail
 refine (T.out w1 _ _ ?_ B.out ?_ ?_).mono ?_
 · simp [World.size_alloc]
 · exact ((Below.refl _ w1).alloc (Nat.le_refl _) _).alloc (by rw [World.size_alloc];omega) _
 · simp only [World.size_alloc];omega
 · rintro e w3 ⟨v,rfl,h⟩
   have H:=Lib.hid h;clear h;go_wp2;go_ret;exact ⟨v,rfl,H.out⟩
theorem Gy (w:World) {b o:Nat} {p:Option Addr} {O:Nat→Prop} {S:QR} (h:o_ w b o p O S) (hm:S.all.length≤many):
 Calls Tryz.prog 101 #[.pointer (some ⟨b,o,none⟩)] w fun e w'=> ∃v,e= .returned v∧(iF w' v S.all∧Vec Elem.ints w' v S.all)∧(∀k,In v k→w.heap.size≤k)∧Below w.heap.size w w':=by
 have hb:=h.c;have hp:=h.ps;have h5:=h.i64;clear h;obtain ⟨rb,R,F,rfl,sR,sF,hc⟩:=wD hp;have c0:w.cell? ⟨b,o,none⟩=some (.pointer p):=hb.c;have K:=Lib.hid hc;obtain ⟨p0,e0⟩: ∃y,dP R none=y:=⟨_,rfl⟩;obtain ⟨p1,e1⟩: ∃y,fq R none=y:=⟨_,rfl⟩;obtain ⟨p2,e2⟩: ∃y,dP F none=y:=⟨_,rfl⟩;obtain ⟨p3,e3⟩: ∃y,fq F none=y:=⟨_,rfl⟩;have T:Hid (∀w1 w2 g,g=w2.heap.size→Below w.heap.size w w1→Below w1.heap.size w1 w2→w1.heap.size≤w2.heap.size→Calls Tryz.prog 141 #[.slice (some ⟨g,0,none⟩) 2 2] (w2.alloc (.cells #[.pointer p0, .pointer p1, .pointer p2, .pointer p3] 202)) fun e w'=> ∃v,e= .returned v∧(iF w' v (nums R++nums F)∧Vec Elem.ints w' v (nums R++nums F))∧(∀k,In v k→w.heap.size≤k)∧Below w.heap.size w w'):=Lib.hid fun w1 w2 g hg h1 h2 hs=>by
  subst hg;have bn:=aV.new w2 202 #[.pointer p0, .pointer p1, .pointer p2, .pointer p3];have b3:Below w.heap.size w (w2.alloc (.cells #[.pointer p0, .pointer p1, .pointer p2, .pointer p3] 202)):=(ah h1 h1.size h2).alloc (by have:=h1.size;omega) _;have hm':(nums R++nums F).length≤many:=by simp only [QR.all,List.length_append] at hm⊢;omega
  have hsub: ∀x∈nums R++nums F,x∈QR.all ⟨nums R,nums F⟩:=fun x hx=>by simpa [QR.all] using hx
  have hrd:Rd (w2.alloc (.cells #[.pointer p0, .pointer p1, .pointer p2, .pointer p3] 202)) w2.heap.size 0 [(⟨rb,0,none⟩,R),(⟨rb,2,none⟩,F)]:=fun i r hr=>by
   match i,hr with
   |0,hr=>
    injection hr with hr;subst hr
    exact ⟨by rw [bn.cell];simp [e0],by rw [bn.cell];simp [e1],sR.grew b3⟩
   |1,hr=>
    injection hr with hr;subst hr
    exact ⟨by rw [bn.cell];simp [e2],by rw [bn.cell];simp [e3],sF.grew b3⟩
   |i+2,hr=>simp at hr
  refine (rD _ hrd rfl (by simp) (Nat.le_trans (by simp [eZ]) hm')).mono fun e w' ⟨v,k1,k2,k3,k4⟩=>⟨v,k1,⟨?_, ?_⟩,fun k hk=> ?_,ah b3 b3.size k4⟩
  · have:=k2.arr (fun x hx=>h5 x (hsub x (by simpa [eZ] using hx)))
    simpa [eZ] using this
  · simpa [eZ] using k2
  · have:=k3 k hk;have:=b3.size;omega
 unfold rowV at K;rw [e0,e1,e2,e3] at K;clear hb hp hc sR sF h5 e0 e1 e2 e3 hm;show Calls _ _ _ _ fun e w'=> ∃v,e= .returned v∧(iF w' v (nums R++nums F)∧Vec Elem.ints w' v (nums R++nums F))∧(∀k,In v k→w.heap.size≤k)∧Below w.heap.size w w';go_enter Tryz.func101,Tryz.ntmps101
 go_wp2_with fail
 refine K.out.mono ?_;rintro e w1 ⟨rfl,hb⟩;have B:=Lib.hid hb;clear hb c0;go_wp2_with fail
 refine (T.out w1 _ _ ?_ B.out ?_ ?_).mono ?_
 · simp [World.size_alloc]
 · exact ((Below.refl _ w1).alloc (Nat.le_refl _) _).alloc (by rw [World.size_alloc];omega) _
 · simp only [World.size_alloc];omega
 · rintro e w3 ⟨v,rfl,h⟩
   have H:=Lib.hid h;clear h;go_wp2;go_ret;exact ⟨v,rfl,H.out⟩
end Go.Proofs.YtpibbcnkgdmcbaaGreatDoor
