/- CallsH: texts of layers below, joined (CallX CallY CallZ CallZa CallBackM CallBackWalk CallBackGoes). -/
import Derived.Test.YtpibbcnkgdmcbaaGreatDoorCallsI
import Derived.Laws.StructEq
import Derived.Test.YtpibbcnkgdmcbaaGreatDoorRecs12
import Derived.Test.YtpibbcnkgdmcbaaGreatDoorLay
set_option linter.unusedVariables false
set_option maxRecDepth 100000
set_option maxHeartbeats 8000000
namespace Go.Proofs.YtpibbcnkgdmcbaaGreatDoor
open Go.RowKit aC aF aG aI au aD aB aA bf
section
variable {w0 w w' w1 w2:World} {C:fH w0} {K:kW w0 C} {s p q g f m k cap:Nat} {hb:Nat→Nat} {P P':SY} {L L':List Nat} {S S' T:Nat→Prop} {F F':FR} {st st':ByteArray} {a:Option Addr}
theorem zT (n:aQ C K s p q hb S f m a k cap w P L F st w') (hx:bM F.ad) {i:Nat} (hh:fI P.hu F.ad=some i) (hi:i<64) (hne: ∀X∈P.all,X.pl≠i):
 Calls Tryz.prog 49 #[.pointer (some ⟨f,0,none⟩)] w' fun e w1=>e= .returned (.string cK)∧aQ C K s p q hb S f m a k cap w (relE P i).2 L (jr F (relE P i).1) st w1:=by
 have c0:=n.fr.Kh;have c4:=n.fr.Cy;have HA:=fun w1 (n:aQ C K s p q hb S f m a k cap w P L F st w1)=>t_ n.os hx;rw [hh] at HA;unfold yG at HA;simp only at HA;have HA:=Lib.hid HA;obtain ⟨er,her⟩: ∃er,(relE P i).1=er:=⟨_,rfl⟩;obtain ⟨P2,hP2⟩: ∃P2,(relE P i).2=P2:=⟨_,rfl⟩;have RL:Hid (∀w1,aQ C K s p q hb S f m a k cap w P L F st w1→Calls Tryz.prog 88 #[.pointer (some ⟨s,0,none⟩), .int .i64 (i:Int)] w1 fun e w2=>e= .returned (.int .i64 er)∧aQ C K s p q hb S f m a k cap w P2 L F st w2):=Lib.hid fun w1 n1=>(Gd n1.os hi hne).mono fun e w2 h=>by
  rw [her,hP2] at h;exact ⟨h.1,n1.turn h.2.1 h.2.2⟩
 rw [her,hP2];have FA:=Lib.hid (fun w1 (n:aQ C K s p q hb S f m a k cap w P2 L F st w1)=>uJ n.fr er);have D:=Lib.hid (fun w1 (n:aQ C K s p q hb S f m a k cap w P L F st w1)=>(And.intro n.fr.Kh n.fr.Cy));have N:=Lib.hid n;obtain ⟨ad,had⟩: ∃x,F.ad=x:=⟨_,rfl⟩;rw [had] at c4 HA D;clear n hx hh hne had her hP2;go_enter Tryz.func49,Tryz.ntmps49
 go_wp2;go_region_held3 (fun w'=>w'.cell? ⟨f,0,none⟩=some (.pointer (some ⟨s,0,none⟩))∧w'.cell? ⟨f,4,none⟩=some (.int .u64 (ad:Int))) (first|go_keep|exact ⟨c0,c4⟩|exact d2) (first
  |(go_at_call 30;(refine (HA.out _ N.out.drew).mono ?_);rintro e w2 ⟨rfl,hb2⟩;have N2:=Lib.hid (N.out.drew.grew hb2);have d2:=D.out _ N2.out;clear hb2))
 obtain ⟨e0,e4⟩:=d2;go_wp2_with (first
  |((with_reducible refine (RL.out _ N2.out).mono ?_);rintro e w3 ⟨rfl,n3⟩;have N3:=Lib.hid n3;clear n3)
  |((with_reducible refine (RL.out _ N2.out.drew).mono ?_);rintro e w3 ⟨rfl,n3⟩;have N3:=Lib.hid n3;clear n3)
  |((with_reducible refine (FA.out _ N3.out).mono ?_);rintro e w4 ⟨rfl,h4,u4⟩;have N4:=Lib.hid (N3.out.Ck h4 u4);clear h4 u4))
 go_ret;exact ⟨rfl,N4.out⟩
end
end Go.Proofs.YtpibbcnkgdmcbaaGreatDoor
namespace Go.Proofs.YtpibbcnkgdmcbaaGreatDoor
open Go.RowKit aC aF aG aI au aD aB aA bf
structure Rw {w0:World} (C:fH w0) (K:kW w0 C) (s p q:Nat) (hb:Nat→Nat) (P:SY) (L:List Nat) (S:Nat→Prop) (X:SG) (sp:Nat) (c:Addr) (w:World):Prop where
 ex: ∃g own O B R,qy C K s p q hb g own O B R P L w∧(∀k,C9 s p g own O (cu B R) k→ ¬S k)∧ ∃b∈cu B R,b.X=X∧b.sp=sp∧b.c=c
 below:Below w0.heap.size w0 w
 lt: ∀k,S k→k<w.heap.size
 lo: ∀k,S k→w0.heap.size≤k
section
variable {w0 w w' w1:World} {C:fH w0} {K:kW w0 C} {s p q sp:Nat} {hb:Nat→Nat} {P:SY} {L:List Nat} {S:Nat→Prop} {X:SG} {c:Addr}
theorem Rw.os (z:Rw C K s p q hb P L S X sp c w):OS C K s p q hb P L S w:=by
 obtain ⟨⟨g,own,O,B,R,z1,z2,_⟩,h5,h6,h7⟩:=z;exact ⟨⟨g,own,O,B,R,z1,z2⟩,h5,h6,h7⟩
theorem Rw.grew (z:Rw C K s p q hb P L S X sp c w) (h:Below w.heap.size w w'):Rw C K s p q hb P L S X sp c w':=by
 obtain ⟨⟨g,own,O,B,R,z1,z2,z3⟩,h5,h6,h7⟩:=z;exact ⟨⟨g,own,O,B,R,z1.upd (ak h) fun _ x=>x.elim,z2,z3⟩,ah h5 h5.size h,fun k hk=>Nat.lt_of_lt_of_le (h6 k hk) h.size,h7⟩
theorem Bq (z:OS C K s p q hb P L S w) {x:Nat} (hx:bM x) {o:bY} (hX:X∈P.all) (ho:bJ X x=some o):
 Calls Tryz.prog 31 #[.pointer (some ⟨s,0,none⟩), .int .u64 (x:Int)] w fun e w'=> ∃sp c,e= .returned (.tuple #[.pointer (some ⟨sp,0,none⟩), .pointer (some ⟨o.op,0,none⟩)])∧Rw C K s p q hb P L S X sp c w'∧Below w.heap.size w w':=by
 obtain ⟨⟨g,own,O,B,R,z1,z2⟩,h5,h6,h7⟩:=z;have hX2:=hX;rw [z1.all] at hX2;obtain ⟨b,hb1,e1⟩:=List.mem_map.1 hX2;refine (yQ z1 h5 hx).mono fun e w' k=> ?_;refine ⟨b.sp,b.c,k.1 b hb1 o (by rw [e1];exact ho),Rw.grew ⟨⟨g,own,O,B,R,z1,z2,b,hb1,e1,rfl,rfl⟩,h5,h6,h7⟩ k.2.2,k.2.2⟩
theorem PE (z:Rw C K s p q hb P L S X sp c w):Calls Tryz.prog 81 #[.pointer (some ⟨sp,0,none⟩)] w fun e w'=>e= .returned (.pointer (some c))∧Rw C K s p q hb P L S X sp c w'∧Below w.heap.size w w':=by
 have z':=z;obtain ⟨⟨g,own,O,B,R,z1,z2,b,hb1,e1,rfl,rfl⟩,h5,h6,h7⟩:=z;exact (C.owner w h5 (z1.env.dJ.sg b hb1)).mono fun e w' k=>⟨k.1,z'.grew k.2,k.2⟩
theorem TV (z:Rw C K s p q hb P L S X sp c w) (ht:X.ot≤1000000000):Calls Tryz.prog 89 #[.pointer (some c)] w fun e w'=>e= .returned (.tuple #[.int .u64 (X.ow:Int), .int .u64 (X.ot:Int)])∧OS C K s p q hb (P.WB {X with oa:=X.oa+1}) L S w'∧Still S w w':=by
 obtain ⟨⟨g,own,O,B,R,z1,z2,b,hb1,rfl,rfl,rfl⟩,h5,h6,h7⟩:=z;refine (C.Vy w h5 (z1.env.dJ.sg b hb1) ht).mono fun e w' k=>⟨k.1, ?_⟩;have hT: ∀x,b.I x→C9 s p g own O (cu B R) x:=fun x hx=> .inr (.inl (.inr (.inr (.inr ⟨b,hb1, .inl hx⟩))));obtain ⟨y1,y2⟩:=z1.YD (b':=⟨b.sp,b.I,b.c,{b.X with oa:=b.X.oa+1}⟩) hb1 k.2.1 rfl rfl k.2.2 (fun x hx=> .inl (.inl hx)) (Agree.refl L []) (fun y hy=>by cases hy) (fun x hx=> .inl hx);have u:Still S w w':=k.2.2.mono fun x hx=>z2 x (hT x hx);refine ⟨⟨⟨g,own,O,_,_,y1,fun x hx e=> ?_⟩,h5.trans (k.2.2.below (fun x hx=>z1.lo x (hT x hx)) h5.size),fun x hx=>Nat.lt_of_lt_of_le (h6 x hx) u.size,h7⟩,u⟩;rcases y2 x hx with y|y
 · exact z2 x y e
 · have:=h6 x e;omega
end
end Go.Proofs.YtpibbcnkgdmcbaaGreatDoor
namespace Go.Proofs.YtpibbcnkgdmcbaaGreatDoor
open Go.RowKit aC aF aG aI au aD aB aA bf
section
variable {w0 w w' w1 w2:World} {C:fH w0} {K:kW w0 C} {s p q g f m k cap:Nat} {hb:Nat→Nat} {P P':SY} {L L':List Nat} {S S' T:Nat→Prop} {F F':FR} {st st':ByteArray} {a:Option Addr}
def vY (P:SY) (X:SG):SY:=P.WB {X with oa:=X.oa+1}
def Fv (P:SY) (X:SG) (t x:Nat):SY:=(vY P X).oo t (fJ ((vY P X).H t) P.A x).1.1 (fJ ((vY P X).H t) P.A x).1.2
def sV (P:SY) (X:SG) (t x:Nat):Int:=(fJ ((vY P X).H t) P.A x).2
theorem Co (n:aQ C K s p q hb S f m a k cap w P L F st w') (hx:bM F.ad) (hh:fI P.hu F.ad=none) {X:SG} {o:bY} (hX:X∈P.all) (ho:bJ X F.ad=some o) (hot:X.ot≤1000000000) (how:X.ow=F.t+1)
 (hf: ∀Y o,dO ((vY P X).H F.t) F.ad=some (Y,o)→dN o.P F.ad=0→F.ad∉o.P.F∧F.ad∉o.P.G):
 Calls Tryz.prog 49 #[.pointer (some ⟨f,0,none⟩)] w' fun e w1=> ∃L',e= .returned (.string cK)∧aQ C K s p q hb S f m a k cap w (Fv P X F.t F.ad) L' (jr F (sV P X F.t F.ad)) st w1∧L'.length=L.length:=by
 have c0:=n.fr.Kh;have c4:=n.fr.Cy;have t8:=n.fr.t8;have HA:=fun w1 (n:aQ C K s p q hb S f m a k cap w P L F st w1)=>t_ n.os hx;rw [hh] at HA;unfold yG at HA;simp only at HA;have HA:=Lib.hid HA;obtain ⟨er,her⟩: ∃er,sV P X F.t F.ad=er:=⟨_,rfl⟩;obtain ⟨P2,hP2⟩: ∃P2,Fv P X F.t F.ad=P2:=⟨_,rfl⟩;obtain ⟨hp,Mg⟩: ∃hp,hb F.t=hp:=⟨_,rfl⟩;obtain ⟨id,hid⟩: ∃id:Nat,F.t+1=id:=⟨_,rfl⟩;rw [hid] at how;have FI:=Lib.hid (fun w1 (n:aQ C K s p q hb S f m a k cap w P L F st w1)=>Bq n.os hx hX ho);have LO:=fun w1 sp c (n:aQ C K s p q hb S f m a k cap w P L F st w1) (z:Rw C K s p q hb P L S X sp c w1)=>(TV z hot).mono fun e w2 h=>(show e= .returned (.tuple #[.int .u64 (X.ow:Int), .int .u64 (X.ot:Int)])∧aQ C K s p q hb S f m a k cap w (vY P X) L F st w2 from ⟨h.1,n.turn h.2.1 h.2.2⟩);rw [how] at LO;have LO:=Lib.hid LO;have FR:Hid (∀w1,aQ C K s p q hb S f m a k cap w (vY P X) L F st w1→Calls Tryz.prog 90 #[.pointer (some ⟨hp,0,none⟩), .int .u64 (F.ad:Int)] w1 fun e w2=>e= .returned (.int .i64 er)∧ ∃L',aQ C K s p q hb S f m a k cap w P2 L' F st w2∧L'.length=L.length):=Lib.hid fun w1 n1=>by
  rw [←Mg];refine (S_ n1.os t8 hx hf).mono fun e w2 h=> ?_;obtain ⟨e1,L',z,hl,_,u⟩:=h;exact ⟨e1.trans (by rw [←her];rfl),L',by rw [←hP2];exact n1.turn z u,hl⟩
 have FA:=Lib.hid (fun w1 L' (n:aQ C K s p q hb S f m a k cap w P2 L' F st w1)=>uJ n.fr er);have D:=Lib.hid (fun w1 P L (n:aQ C K s p q hb S f m a k cap w P L F st w1)=>And.intro n.fr.Kh (And.intro (show w1.cell? ⟨f,1,none⟩=some (.pointer (some ⟨hp,0,none⟩)) by rw [←Mg];exact n.fr.Q6) (And.intro (show w1.cell? ⟨f,2,none⟩=some (.int .u64 (id:Int)) by rw [←hid];exact n.fr.abX) n.fr.Cy)));have hF:(jr F er).t=F.t∧(jr F er).ad=F.ad:=by unfold jr;split<;>exact ⟨rfl,rfl⟩
 have D7:=Lib.hid (fun w1 L' (n:aQ C K s p q hb S f m a k cap w P2 L' (jr F er) st w1)=>And.intro (show w1.cell? ⟨f,1,none⟩=some (.pointer (some ⟨hp,0,none⟩)) by rw [←Mg,←hF.1];exact n.fr.Q6) (show w1.cell? ⟨f,4,none⟩=some (.int .u64 (F.ad:Int)) by rw [←hF.2];exact n.fr.Cy));have N:=Lib.hid n;rw [her,hP2];obtain ⟨ad,had⟩: ∃x,F.ad=x:=⟨_,rfl⟩;rw [had] at c4 HA FI FR D D7;clear n hx hh hX ho hot how hf her hP2 Mg hid t8 had hF;go_enter Tryz.func49,Tryz.ntmps49
 go_wp2;go_region_held3 (fun w'=>w'.cell? ⟨f,0,none⟩=some (.pointer (some ⟨s,0,none⟩))∧w'.cell? ⟨f,4,none⟩=some (.int .u64 (ad:Int))) (first|go_keep|exact ⟨c0,c4⟩|exact ⟨d2.1,d2.2.2.2⟩) (first
  |(go_at_call 30;(refine (HA.out _ N.out.drew).mono ?_);rintro e w2 ⟨rfl,hb2⟩;have N2:=Lib.hid (N.out.drew.grew hb2);have d2:=D.out _ _ _ N2.out;clear hb2))
 obtain ⟨e0,_,_,e4⟩:=d2;go_wp2;go_region_held3 (fun w'=>w'.cell? ⟨f,0,none⟩=some (.pointer (some ⟨s,0,none⟩))∧w'.cell? ⟨f,4,none⟩=some (.int .u64 (ad:Int))) (first|go_keep|exact ⟨e0,e4⟩|exact ⟨d3.1,d3.2.2.2⟩) (first
  |(go_at_call 31;(refine (FI.out _ N2.out.drew).mono ?_);rintro e w3 ⟨sp,c,rfl,z3,hb3⟩;have N3:=Lib.hid (N2.out.drew.grew hb3);have Z3:=Lib.hid z3;have d3:=D.out _ _ _ N3.out;clear hb3 z3))
 go_wp2_with (first
  |((with_reducible refine (PE Z3.out).mono ?_);rintro e w4 ⟨rfl,z4,hb4⟩;have N4:=Lib.hid (N3.out.grew hb4);have Z4:=Lib.hid z4;clear z4 hb4)
  |((with_reducible refine (LO.out _ _ _ N4.out Z4.out).mono ?_);rintro e w5 ⟨rfl,n5⟩;have N5:=Lib.hid n5;obtain ⟨f0,f1,f2,f4⟩:=D.out _ _ _ n5;clear n5)
  |fail)
 go_region_held3 (fun w'=>w'.cell? ⟨f,1,none⟩=some (.pointer (some ⟨hp,0,none⟩))∧w'.cell? ⟨f,4,none⟩=some (.int .u64 (ad:Int))) (first|go_keep|exact ⟨f1,f4⟩|exact d7|exact ⟨d6.2.1,d6.2.2.2⟩) (first
  |(go_at_call 90;(first|(with_reducible refine (FR.out _ N5.out).mono ?_)|(refine (FR.out _ N5.out.drew).mono ?_));rintro e w6 ⟨rfl,L',n6,hl6⟩;have N6:=Lib.hid n6;have HL:=Lib.hid hl6;have d6:=D.out _ _ _ N6.out;clear n6 hl6)
  |(go_at_call 87;(first|(with_reducible refine (FA.out _ _ N6.out).mono ?_)|(refine (FA.out _ _ N6.out.drew).mono ?_));rintro e w7 ⟨rfl,h7,u7⟩;have N7:=Lib.hid (aQ.Ck (by first|exact N6.out|exact N6.out.drew) h7 u7);have d7:=D7.out _ _ N7.out;clear h7 u7))
 go_wp2;go_ret;exact ⟨L',rfl,N7.out,HL.out⟩
end
end Go.Proofs.YtpibbcnkgdmcbaaGreatDoor
namespace Go.Proofs.YtpibbcnkgdmcbaaGreatDoor
open Go.RowKit aC aF aG aI au aD aB aA bf
section
variable {w0 w w' w1 w2:World} {C:fH w0} {K:kW w0 C} {s p q g f m k cap:Nat} {hb:Nat→Nat} {P P':SY} {L L':List Nat} {S S' T:Nat→Prop} {F F':FR} {st st':ByteArray} {a:Option Addr}
theorem y5 (n:aQ C K s p q hb S' f m a k cap w P L F lq w') (h1: ∀b,S b→S' b) (h2: ∀b,S' b→S b∨w.heap.size≤b) (hx:bM F.ad) (hk:F.kd=2) (ht:F.took=0) (ha:F.addr=0) {i:Nat} (hh:fI P.hu F.ad=some i) (hne: ∀X∈P.all,X.pl≠i):
 Ends f (Over C K s p q hb S f m w L.length fun P2 _ F2=>P2=(relE P i).2∧F2.err=(relE P i).1∧F2.took=1∧F2.addr=0) 1 w':=by
 refine fu n wK (by omega) (fun w1 h=>CJ h) Cr fun w1 n1 hw1=> ?_;refine (zT n1 hx hh (ED hh).1 hne).mono ?_;rintro er w2 ⟨rfl,n2⟩;refine ⟨_,rfl,_,_,_,_,_,_,_,n2,fun w3 n3=>gu n3 h1 h2 ?_⟩;have e1:jr (cB F) (relE P i).1={cB F with err:=(relE P i).1}:=if_pos hk;rw [e1];exact ⟨rfl,rfl,by show F.took+1=1;omega,ha⟩
theorem zV (n:aQ C K s p q hb S' f m a k cap w P L F lq w') (h1: ∀b,S b→S' b) (h2: ∀b,S' b→S b∨w.heap.size≤b) (hx:bM F.ad) (hk:F.kd=2) (ht:F.took=0) (ha:F.addr=0) (hh:fI P.hu F.ad=none) {X:SG} {o:bY} (hX:X∈P.all) (ho:bJ X F.ad=some o) (hot:X.ot≤1000000000) (how:X.ow=F.t+1)
 (hf: ∀Y o,dO ((vY P X).H F.t) F.ad=some (Y,o)→dN o.P F.ad=0→F.ad∉o.P.F∧F.ad∉o.P.G):
 Ends f (Over C K s p q hb S f m w L.length fun P2 _ F2=>P2=Fv P X F.t F.ad∧F2.err=sV P X F.t F.ad∧F2.took=1∧F2.addr=0) 1 w':=by
 refine fu n wK (by omega) (fun w1 h=>CJ h) Cr fun w1 n1 hw1=> ?_;refine (Co n1 hx hh hX ho hot how hf).mono ?_;rintro er w2 ⟨L',rfl,n2,hl⟩;refine ⟨_,rfl,_,_,_,_,_,_,_,n2,fun w3 n3=> ?_⟩;rw [←hl];refine gu n3 h1 h2 ?_;have e1:jr (cB F) (sV P X F.t F.ad)={cB F with err:=sV P X F.t F.ad}:=if_pos hk;have e2:sV P X (cB F).t (cB F).ad=sV P X F.t F.ad:=rfl;rw [e2,e1];exact ⟨rfl,rfl,by show F.took+1=1;omega,ha⟩
end
end Go.Proofs.YtpibbcnkgdmcbaaGreatDoor
namespace Go.Proofs.YtpibbcnkgdmcbaaGreatDoor
open Go.RowKit aC aF aG aI au aD aB aA bf
theorem CK: ∀k:Nat,k<64→1≤k→(reserve (jT 64 64) (k:Int)).1.toNat=1∧(reserve (jT 64 64) (k:Int)).2.1=0∧total (reserve (jT 64 64) (k:Int)).2.2.l=k+1∧(release (reserve (jT 64 64) (k:Int)).2.2 1).1=0∧total (release (reserve (jT 64 64) (k:Int)).2.2 1).2.l=1:=of_decide_eq_true (by kernel_rfl)
theorem Kl:(reserve (jT 64 64) 64).2.1=4∧total (reserve (jT 64 64) 64).2.2.l=1∧total (jT 64 64).l=1:=of_decide_eq_true (by kernel_rfl)
theorem XM {a:Nat} (h:iQ a=true):1024%a=0:=by
 unfold iQ at h;simp at h;rcases h with h|h|h|h|h|h|h|h|h|h|h<;>subst h<;>rfl
theorem Rp {a x:Nat} (h:iQ a=true):x*1024%a=0:=by
 obtain ⟨k,hk⟩:=Nat.dvd_of_mod_eq_zero (XM h);rw [hk,Nat.mul_left_comm];exact Nat.mul_mod_right _ _
def Gives (P:SY) (t x:Nat):Prop:=
 (∃i,fI P.hu x=some i∧(∀X∈P.all,X.pl≠i)∧(relE P i).1=0∧total (relE P i).2.A.l=1)∨
 (fI P.hu x=none∧ ∃X o,X∈P.all∧bJ X x=some o∧X.ot≤1000000000∧X.ow=t+1∧(∀Y o,dO ((vY P X).H t) x=some (Y,o)→dN o.P x=0→x∉o.P.F∧x∉o.P.G)∧sV P X t x=0∧total (Fv P X t x).A.l=1)
def Rz (n al t:Nat) (P:SY) (F:FR):Prop:=
 (F.err≠0∧F.addr=0∧total P.A.l=1∧((dV n (max al 1)).2≠0∨63<(dV n (max al 1)).1.sg))∨
 (F.err=0∧(dV n (max al 1)).2=0∧tK P F.addr=((dV n (max al 1)).1.us,0)∧F.addr%max al 1=0∧total P.A.l≠1∧F.addr≤1048576∧Gives P t F.addr)
section
variable {P:SY} {L:List Nat} {F:FR} {t n al:Nat}
theorem GL {A:St} {pc ps:Int} {tk:Nat} (hA:A=jT 64 64) (h:VX A t pc ps tk P L F) (g:aO (P.H t)) (hps: ¬eX pc ps) (h0:0≤ps):
 F.addr=17408∧tK P F.addr=(bQ pc ps.toNat,0)∧total P.A.l=2∧Gives P t F.addr:=by
 subst hA;obtain ⟨a1,a2,a3,a4,a5⟩:=CK 1 (by omega) (by omega);have ha:F.addr=17408:=by rw [h.ad];show aL (reserve (jT 64 64) (1:Nat)).1.toNat 1=_;rw [a1];rfl
 obtain ⟨X,hX,o,ho,h2,h3⟩:=h.ex;obtain ⟨hg,V,hw⟩:=h.us.wh X hX o ho;obtain ⟨hu,_⟩:=F7 h.o g h.hu hX ho hg h3;obtain ⟨op,pp,hB⟩:=h.nw;have hj:(reserve (jT 64 64) 1).1.toNat=1:=a1;rw [hj] at hB;obtain ⟨X0,hX0⟩: ∃X0,gV (aY (t+1) 1) op pp pc ps.toNat 1=X0:=⟨_,rfl⟩;have hXX:X=X0:=by rw [hB,hX0] at hX;exact List.mem_singleton.1 hX
 subst hXX;have hL:X.L= [⟨op,pp,pc,1,dZ pc ps.toNat,fresh (aL 1 1) (bQ pc ps.toNat) (h_ pc) 1⟩]:=by
  rw [←hX0];show (ni [] (⟨op,pp,pc,1,dZ pc ps.toNat,bR (aL 1 1) (bQ pc ps.toNat) (h_ pc)⟩:bY)).map (fun o=>if o.pp=pp then {o with P:=fresh (aL 1 1) (bQ pc ps.toNat) (h_ pc) 1} else o)=_;unfold ni;simp
 have hpl:X.pl=1:=by rw [←hX0];rfl
 have how:X.ow=t+1:=by rw [←hX0];rfl
 have hot:X.ot=1:=by rw [←hX0];rfl
 have heo:o=⟨op,pp,pc,1,dZ pc ps.toNat,fresh (aL 1 1) (bQ pc ps.toNat) (h_ pc) 1⟩:=by rw [hL] at ho;exact List.mem_singleton.1 ho
 have hf:=uO g hX ho (h3.mono hg.made);have hfo:=(qP hf).2;have hgv:=uH hg h3;have hn:=hw.ne;have eB:((vY P X).H t).B= [{X with oa:=X.oa+1}]:=by
  show List.map (fun Y=>if Y.pl=({X with oa:=X.oa+1}:SG).pl then {X with oa:=X.oa+1} else Y) (P.H t).B=_;rw [hB,hX0];simp
 have eF:dO ((vY P X).H t) F.addr=some ({X with oa:=X.oa+1},o):=by
  unfold dO;rw [eB];have abE:bJ ({X with oa:=X.oa+1}:SG) F.addr=some o:=hfo;simp only [List.findSome?_cons,abE,Option.map_some]
 have hin:dR o.P F.addr=true:=by
  obtain ⟨X1,hX1,o1,ho1,hi⟩:=h.us.at' F.addr (List.mem_singleton.2 rfl);rw [hB,hX0] at hX1;rw [List.mem_singleton.1 hX1,hL] at ho1;rw [List.mem_singleton.1 ho1,←heo] at hi;exact hi
 have hno:=hn.1 F.addr (List.mem_filter.2 ⟨List.mem_singleton.2 rfl,hin⟩);have wQ:o.P.used=1:=by rw [heo];rfl
 have hlo:o.lo=1∧o.pp=pp:=by rw [heo];exact ⟨rfl,rfl⟩
 have hfr: ∃H2,fJ ((vY P X).H t) P.A F.addr=((H2,(release P.A 1).2),0):=by
  have e1:bg o.P F.addr=({o.P with G:=F.addr::o.P.G,used:=o.P.used-1},0):=by
   unfold bg;rw [hgv,if_neg (fun h=>h rfl),if_neg (by rw [wQ];decide)]
  unfold fJ;rw [eF];simp only;rw [e1,if_neg (fun h=>h rfl)];unfold gK;rw [if_neg (show ¬0<o.P.used-1 by rw [wQ];decide)];have hc:((({X with oa:=X.oa+1}:SG).put o.pp {o.P with G:=F.addr::o.P.G,used:=o.P.used-1}).cut {o with P:={o.P with G:=F.addr::o.P.G,used:=o.P.used-1}}).L= []:=by
   show List.filter (fun x:bY=>decide (x.lo≠o.lo)) (List.map (fun u=>if u.pp=o.pp then {u with P:={o.P with G:=F.addr::o.P.G,used:=o.P.used-1}} else u) X.L)= [];rw [hL,hlo.1];simp;split<;>rfl
  rw [if_pos hc];refine ⟨_,Prod.ext (Prod.ext rfl ?_) rfl⟩;show (release P.A ((X.pl:Nat):Int)).2=_;rw [hpl];rfl
 obtain ⟨H2,hfr⟩:=hfr;refine ⟨ha,by rw [hu,h2],by rw [h.eA];exact a3, .inr ⟨ny h.hu _,X,o,Km h.o.t8 hX,hfo,by rw [hot];decide,how, ?_, ?_, ?_⟩⟩
 · intro Y o' hY ad1
   rw [eF] at hY;injection hY with hY
   injection hY with h6 h7
   subst h7;exact ⟨hno.1,hno.2.1⟩
 · unfold sV
   rw [hfr]
 · unfold Fv
   rw [hfr];show total (release P.A 1).2.l=1;rw [h.eA];exact a5
theorem Hw {k:Nat} (h1:1≤k) (h2:k≤64) (h:Ku (nO (jT 64 64)) (k:Int) 1 P F):
 (k=64∧F.err≠0∧F.addr=0∧total P.A.l=1)∨(F.err=0∧F.addr=16384∧tK P F.addr=(k*16384,0)∧total P.A.l≠1∧Gives P t F.addr):=by
 by_cases h64:k=64
 · subst h64
   obtain ⟨b1,b2,b3⟩:=Kl;have e:resE (nO (jT 64 64)) ((64:Nat):Int)=(0,(reserve (jT 64 64) 64).2.1,{nO (jT 64 64) with A:=(reserve (jT 64 64) 64).2.2}):=by
    unfold resE;exact if_pos (show (reserve (jT 64 64) 64).2.1≠0 by rw [b1];decide)
   refine .inl ⟨rfl, ?_, ?_, ?_⟩
   · rw [h.er,e];show (reserve (jT 64 64) 64).2.1≠0;rw [b1];decide
   · rw [h.ad,e]
   · rw [h.P,e];exact b2
 · obtain ⟨a1,a2,a3,a4,a5⟩:=CK k (by omega) h1
   have e:resE (nO (jT 64 64)) (k:Int)=(16384,0,{nO (jT 64 64) with A:=(reserve (jT 64 64) (k:Int)).2.2,hu:=fun i=>if i=1 then k else 0}):=by
    unfold resE;rw [show (nO (jT 64 64)).A=jT 64 64 from rfl,if_neg (by rw [a2];decide),a1];rfl
   have eP:P={nO (jT 64 64) with A:=(reserve (jT 64 64) (k:Int)).2.2,hu:=fun i=>if i=1 then k else 0}:=by rw [h.P,e]
   have hA:F.addr=16384:=by rw [h.ad,e]
   have hh:fI P.hu F.addr=some 1:=by
    rw [hA,eP];unfold fI;exact if_pos ⟨by decide,by decide,show (if (1:Nat)=1 then k else 0)≠0 by rw [if_pos rfl];omega⟩
   refine .inr ⟨by rw [h.er,e],hA, ?_, ?_, .inl ⟨1,hh,fun X hX=> ?_, ?_, ?_⟩⟩
   · unfold tK
     rw [hh,eP];show ((if (1:Nat)=1 then k else 0)*16384,(0:Int))=_;rw [if_pos rfl]
   · rw [eP];show total (reserve (jT 64 64) (k:Int)).2.2.l≠1;rw [a3];omega
   · have:X∈(nO (jT 64 64)).all:=by rw [eP] at hX;exact hX
     rw [Bt] at this;cases this
   · unfold relE;rw [eP];exact a4
   · unfold relE;rw [eP];exact a5
theorem Wd (h:ZZ (jT 64 64) t (nO (jT 64 64)) n al P L F) (g:aO (P.H t)):Rz n al t P F:=by
 obtain ⟨fr,hfr⟩: ∃x,dV n (max al 1)=x:=⟨_,rfl⟩;unfold Rz;unfold ZZ at h;rw [hfr] at h⊢;by_cases hg:iQ (max al 1)=true∧n≤1048576
 · have m17:17408%max al 1=0:=Rp (x:=17) hg.1
   have m16:16384%max al 1=0:=Rp (x:=16) hg.1;have pg: ∀{pc ps:Int} {tk:Nat},MZ (jT 64 64) t pc ps tk P L F→ ¬eX pc ps→0≤ps→fr.2=0→bQ pc ps.toNat=fr.1.us→(F.err≠0∧F.addr=0∧total P.A.l=1∧(fr.2≠0∨63<fr.1.sg))∨(F.err=0∧fr.2=0∧tK P F.addr=(fr.1.us,0)∧F.addr%max al 1=0∧total P.A.l≠1∧F.addr≤1048576∧Gives P t F.addr):=by
    intro pc ps tk hm hb h0 hz hs;rcases hm with hm|hm
    · obtain ⟨k1,k2,k3,k4⟩:=GL rfl hm g hb h0
      exact .inr ⟨hm.er,hz,by rw [k2,hs],by rw [k1];exact m17,by rw [k3];decide,by rw [k1];decide,k4⟩
    · exact absurd (CK 1 (by omega) (by omega)).2.1 hm.res
   rcases Nat.lt_or_ge 15360 n with h3|h3
   · have e3:=kH hg.1 h3 hg.2
     rw [hfr] at e3;have hup:1≤au.up n 16384:=Bl (by decide) (by omega);have Xa:au.up n 16384≤64:=by unfold au.up;omega
     rw [e3] at h⊢;rcases h with ⟨h,_⟩|⟨_,_,h⟩|⟨_,h,_⟩
     · exact absurd rfl h
     · rcases Hw (t:=t) hup Xa h with ⟨k1,k2,k3,k4⟩|⟨k1,k2,k3,k4,k5⟩
       · exact .inl ⟨k2,k3,k4, .inr (by show 63<au.up n 16384;omega)⟩
       · exact .inr ⟨k1,rfl,k3,by rw [k2];exact m16,k4,by rw [k2];decide,k5⟩
     · have h':au.up n 16384=0:=h
       omega
   · rcases Nat.lt_or_ge 1024 n with h4|h4
     · have e3:=oQ hg.1 h4 h3
       rw [hfr] at e3;have abn:1≤au.up n 1024:=Bl (by decide) (by omega);have Xa:au.up n 1024≤15:=by unfold au.up;omega
       have nb: ¬eX (-1) ((au.up n 1024:Nat):Int):=by unfold eX;omega
       have hsz:bQ (-1) ((au.up n 1024:Nat):Int).toNat=au.up n 1024*1024:=by unfold bQ;rw [if_pos (by decide)];rfl
       rw [e3] at h pg⊢;rcases h with ⟨h,_⟩|⟨_,h,_⟩|⟨_,_,⟨h,_⟩|⟨_,h⟩⟩
       · exact absurd rfl h
       · exact absurd (show 0<0 from h) (by decide)
       · exact absurd (show (0:Int)≤ -1 from h) (by decide)
       · exact pg h nb (by omega) rfl hsz
     · obtain ⟨c,e3,hc,_⟩:=kG hg.1 h4
       rw [hfr] at e3;have nb: ¬eX (c:Int) ((aM c:Nat):Int):=by unfold eX;omega
       have hsz:bQ (c:Int) ((aM c:Nat):Int).toNat=aK c:=by unfold bQ;rw [if_neg (by omega)];rfl
       rw [e3] at h pg⊢;rcases h with ⟨h,_⟩|⟨_,h,_⟩|⟨_,_,⟨_,h⟩|⟨h,_⟩⟩
       · exact absurd rfl h
       · exact absurd h (by show ¬0<0;decide)
       · exact pg h nb (by omega) rfl hsz
       · have h':(c:Int)= -1:=h
         omega
 · have e3:=yP hg
   rw [hfr] at e3;rw [e3] at h⊢;rcases h with ⟨_,hP,he,ha,_⟩|⟨h,_⟩|⟨h,_⟩
   · exact .inl ⟨by rw [he];decide,ha,by rw [hP];exact Kl.2.2, .inl (by decide)⟩
   · exact absurd h (by decide)
   · exact absurd h (by decide)
end
section
variable {w0 w w':World} {C:fH w0} {K:kW w0 C} {s p q f m k cap:Nat} {hb:Nat→Nat} {P:SY} {L:List Nat} {S S':Nat→Prop} {a:Option Addr} {t x:Nat}
def aav (P:SY) (L:List Nat) (F:FR):Prop:=F.err=0∧F.took=1∧F.addr=0∧total P.A.l=1
theorem Iy (n:aQ C K s p q hb S' f m a k cap w P L (jS t 2 x 0 0 false false) lq w') (h1: ∀b,S b→S' b) (h2: ∀b,S' b→S b∨w.heap.size≤b) (hx:bM x) (g:Gives P t x):Ends f (Over C K s p q hb S f m w L.length aav) 1 w':=by
 rcases g with ⟨i,g1,g2,g3,g4⟩|⟨g0,X,o,g1,g2,g3,g4,g5,g6,g7⟩
 · refine qQ (j:=1) (fun P' L' F' z=> ?_) (y5 n h1 h2 hx rfl rfl rfl g1 g2)
   obtain ⟨rfl,z2,z3,z4⟩:=z;exact ⟨z2.trans g3,z3,z4,g4⟩
 · refine qQ (j:=1) (fun P' L' F' z=> ?_) (zV n h1 h2 hx rfl rfl rfl g0 g1 g2 g3 g4 g5)
   obtain ⟨rfl,z2,z3,z4⟩:=z;exact ⟨z2.trans g6,z3,z4,g7⟩
theorem ZU (P:SY) (t x:Nat):XD P (jS t 2 x 0 0 false false)=jS t 2 x 0 0 false false∧U6 P (jS t 2 x 0 0 false false)=lq:=⟨rfl,rfl⟩
end
end Go.Proofs.YtpibbcnkgdmcbaaGreatDoor
namespace Go.Proofs.YtpibbcnkgdmcbaaGreatDoor
open Go.RowKit aC aF aG aI au aD aB aA bf
theorem Q_ (w:World) (LY:Lay w) {n al:Nat} (hn:bM n) (hal:bM al):
 Calls Tryz.prog 3 #[.int .u64 (n:Int), .int .u64 (al:Int)] w fun e w'=>e= .returned (.bool true)∧Below w.heap.size w w':=by
 have AL:=Lib.hid (Nl w LY);have NW:=Lib.hid (fun w1 (h:Below w.heap.size w w1)=>Oj (C:=Ya w LY) (K:=hpc w LY (Ya w LY)) h (n:=64) (l:=64) (by omega) (by omega) (by omega) (by omega) (S:=fun _=>False) (fun k h=>h.elim) (fun k h=>h.elim));have BG:=Lib.hid (fun w1 s p q hb L (z:OS (Ya w LY) (hpc w LY (Ya w LY)) s p q hb (nO (jT 64 64)) L (fun _=>False) w1)=>CF z LY (t:=2) (by decide) (ad:=0) (n:=n) (al:=al) (zz:=true) (fo:=false) hn hal);have hmax:(max (al:Int) 1)=((max al 1:Nat):Int):=by omega
 have hm1:1≤max al 1:=by omega
 have hm2:max al 1≤18446744073709551615:=by unfold bM at hal;omega
 obtain ⟨mx,hmx⟩: ∃x,max al 1=x:=⟨_,rfl⟩;have HMX:=Lib.hid hmx;rw [hmx] at hmax hm1 hm2;have FO:=fun w1 (h:Below w.heap.size w w1)=>J8 (LY.below h) hn (a:=mx) hm2;obtain ⟨fr,hfr⟩: ∃x,dV n mx=x:=⟨_,rfl⟩;have HFR:=Lib.hid hfr;rw [hfr] at FO;obtain ⟨⟨pc,sl,sg,us⟩,h⟩:=fr;unfold Lu at FO;simp only at FO;have FO:=Lib.hid FO;have hm0: ¬(mx:Int)=0:=by omega
 clear hmx hfr hm1 hm2 hal hn;go_enter Tryz.func3,Tryz.ntmps3
 go_wp2_with fail
 refine AL.out.mono ?_;rintro e w1 ⟨rfl,hb1⟩;have B1:=Lib.hid hb1;clear hb1;go_wp2_with fail
 refine (NW.out _ B1.out).mono ?_;rintro e w2 ⟨s,p,q,hb,L,rfl,z,hl,hb2⟩;have Z:=Lib.hid z;clear z hb2 hl;go_wp2_with fail
 refine (BG.out _ _ _ _ _ _ Z.out).mono ?_;rintro e w3 ⟨f,m,rfl,hf,S2,a,k,cap,n2,i1,i2⟩;rw [(Nc _ 2 0 n al true false).1,(Nc _ 2 0 n al true false).2] at n2;obtain ⟨j,hj,he⟩:=uo (S:=fun _=>False) (A:=jT 64 64) (t:=2) (w:=w2) (ad:=0) (n:=n) (al:=al) (zz:=true) (fo:=false) n2 n2.un.size i1 (fun b hb=>(i2 b hb)) (Ct (by decide)) (by show (0:Nat)≤900;omega) (by have:=Rh 64 64;omega);have FN:=Lib.hid (qO (mo:=100) he (by omega) (by omega));clear n2 he i1 i2 hj hf;go_wp2_with fail
 refine FN.out.mono ?_;rintro e w4 ⟨rfl,P,L4,F,hl4,hz,S4,a4,k4,cap4,n4,i4,j4⟩;have HM:=Wd hz (n4.os.J6 (by decide));unfold Rz at HM;rw [HMX.out,HFR.out] at HM;simp only at HM;have RS:=n_ n4.fr;have N4:=Lib.hid n4;have AR:=Lib.hid (fun w5 (h:Below w4.heap.size w4 w5)=>Bd (n4.grew h).os);have GV:=fun w5 (h:Below w4.heap.size w4 w5)=>Dm (n4.grew h).os;obtain ⟨er,her⟩: ∃x,F.err=x:=⟨_,rfl⟩;obtain ⟨ad,had⟩: ∃x,F.addr=x:=⟨_,rfl⟩;obtain ⟨tk,htk⟩: ∃x,F.took=x:=⟨_,rfl⟩;obtain ⟨T,hT⟩: ∃x,total P.A.l=x:=⟨_,rfl⟩;rw [her,had,htk] at RS;rw [hT] at GV;rw [her,had,hT] at HM;unfold OV at RS;have RS:=Lib.hid RS;have GV:=Lib.hid GV;have HM:=Lib.hid HM;have B4:=Lib.hid n4.os.below;clear n4 hz hl4 i4 j4 her had htk hT FN BG NW AL;go_wp2_with fail
 refine RS.out.mono ?_;rintro e w5 ⟨rfl,hb5⟩;obtain ⟨W5,hW5⟩: ∃W,w5.alloc (.cells #[.int .u64 (ad:Int), .int .i64 er, .int .i64 (tk:Int)] 35)=W:=⟨_,rfl⟩;have B5:Hid (Below w4.heap.size w4 W5):=Lib.hid (by rw [←hW5];exact hb5.alloc hb5.size _);have NR:Hid (aV W5 w5.heap.size 35 #[.int .u64 (ad:Int), .int .i64 er, .int .i64 (tk:Int)]):=Lib.hid (by rw [←hW5];exact aV.new w5 _ _);have B45:Hid (Below w.heap.size w W5):=Lib.hid (ah B4.out B4.out.size B5.out);go_wp2_with fail
 (try rw [hW5])
 clear hW5 hb5;refine (FO.out _ B45.out).mono ?_;rintro e w6 ⟨rfl,hb6⟩;obtain ⟨W6,Xo⟩: ∃W,w6.alloc (.cells #[.int .i64 pc, .int .i64 (sl:Int), .int .i64 (sg:Int), .int .u64 (us:Int)] 38)=W:=⟨_,rfl⟩;have b6:Below W5.heap.size W5 W6:=by rw [←Xo];exact hb6.alloc hb6.size _
 have B6:Hid (Below w4.heap.size w4 W6):=Lib.hid (ah B5.out B5.out.size b6);have D:=Lib.hid (fun w7 (h:Below W6.heap.size W6 w7)=>And.intro ((NR.out.grew (ah b6 b6.size h)).cell 0) (And.intro ((NR.out.grew (ah b6 b6.size h)).cell 1) (And.intro (((by rw [←Xo];exact aV.new w6 _ _:aV W6 w6.heap.size 38 #[.int .i64 pc, .int .i64 (sl:Int), .int .i64 (sg:Int), .int .u64 (us:Int)]).grew h).cell 2) (((by rw [←Xo];exact aV.new w6 _ _:aV W6 w6.heap.size 38 #[.int .i64 pc, .int .i64 (sl:Int), .int .i64 (sg:Int), .int .u64 (us:Int)]).grew h).cell 3))));obtain ⟨d0,d1,d2,d3⟩:=D.out _ (Below.refl _ W6);have GO:=Lib.hid (fun w7 (h:Below W6.heap.size W6 w7)=>ah B6.out B6.out.size h);clear hb6 b6 NR B45;have BW:=Lib.hid (Below.refl W6.heap.size W6);rcases HM.out with ⟨q1,q2,q3,q4⟩|⟨q1,q2,q3,q4,q5,q6,q7⟩
 · have t1:(er==0)=false:=by simpa using q1
   have t2:((ad:Int)==0)=true:=by rw [q2];rfl
   have t3:((T:Int)==1)=true:=by rw [q3];rfl
   have tt:((h==0)=false∧(h !=0)=true)∨(h=0∧decide (63<sg)=true∧decide ((63:Int)<(sg:Int))=true):=by
    by_cases h0:h=0
    · rcases q4 with q4|q4
      · exact absurd h0 q4
      · exact .inr ⟨h0,decide_eq_true q4,decide_eq_true (by omega)⟩
    · exact .inl ⟨by simpa using h0,by simpa using h0⟩
   clear q1 q2 q3 q4 HM;rcases tt with ⟨t4,t5⟩|⟨rfl,t4,t5⟩
   all_goals
    go_wp2_with fail
    (try rw [Xo])
    clear Xo;go_wp2_with (first
     |((with_reducible refine (AR.out _ (GO.out _ BW.out)).mono ?_);rintro e w7 ⟨rfl,hw7⟩;obtain rfl:=hw7.symm;clear hw7)
     |((with_reducible refine (GV.out _ (GO.out _ BW.out)).mono ?_);rintro e w8 ⟨rfl,Nt⟩;have BW:=Lib.hid (ah BW.out BW.out.size Nt);obtain ⟨d0,d1,d2,d3⟩:=D.out _ BW.out;clear Nt)
     |fail)
    go_ret;exact ⟨rfl,ah B4.out B4.out.size (GO.out _ BW.out)⟩
 · obtain rfl:=q1
   obtain rfl:=q2;have t3:((T:Int)==1)=false:=by simpa using (by omega: ¬(T:Int)=1)
   have r1:(ad:Int)%(mx:Int)=0:=by rw [←Int.natCast_emod,q4];rfl
   have r2:Int.tmod (ad:Int) (mx:Int)=0:=by rw [←Int.ofNat_tmod,q4];rfl
   have hx:bM ad:=by unfold bM;omega
   have US:=fun w5 (h:Below w4.heap.size w4 w5)=>pI (N4.out.grew h).os hx;rw [q3] at US;have US:=Lib.hid US;have G7:=Lib.hid q7;have HX:=Lib.hid hx;have BG2:=Lib.hid (fun w5 (h:Below w4.heap.size w4 w5)=>Kj (N4.out.grew h).os (t:=2) (by decide) (ad:=ad) (n:=0) (al:=0) (zz:=false) (fo:=false));clear q3 q4 q5 q6 q7 hx HM;go_wp2_with fail
   (try rw [Xo])
   clear Xo;go_wp2_with (first
    |((with_reducible refine (AR.out _ (GO.out _ BW.out)).mono ?_);rintro e w7 ⟨rfl,hw7⟩;obtain rfl:=hw7.symm;clear hw7)
    |((with_reducible refine (GV.out _ (GO.out _ BW.out)).mono ?_);rintro e w8 ⟨rfl,Nt⟩;have BW:=Lib.hid (ah BW.out BW.out.size Nt);obtain ⟨d0,d1,d2,d3⟩:=D.out _ BW.out;clear Nt)
    |((with_reducible refine (US.out _ (GO.out _ BW.out)).mono ?_);rintro e w8 ⟨rfl,Nt⟩;have BW:=Lib.hid (ah BW.out BW.out.size Nt);obtain ⟨d0,d1,d2,d3⟩:=D.out _ BW.out;clear Nt)
    |fail)
   refine (BG2.out _ (GO.out _ BW.out)).mono ?_;rintro e w9 ⟨f2,m2,rfl,hf2,S9,a9,k9,aeh,n9,i9,j9⟩;rw [(ZU _ 2 ad).1,(ZU _ 2 ad).2] at n9;have FN2:=Lib.hid (qO (mo:=100) (Iy n9 i9 j9 HX.out G7.out) (by omega) (by omega));clear n9 i9 j9 hf2 d0 d1 d2 d3 GV AR US BG2 FO;go_wp2_with fail
   refine FN2.out.mono ?_;rintro e YA ⟨rfl,P2,L2,F2,hl2,⟨z1,z2,z3,z4⟩,S10,a10,k10,ac9,n10,i10,j10⟩;have Z7:=n_ n10.fr;rw [z1,z2,z3] at Z7;unfold OV at Z7;have AR2:=Lib.hid (fun w5 (h:Below YA.heap.size YA w5)=>Bd (n10.grew h).os);have GV2:=fun w5 (h:Below YA.heap.size YA w5)=>Dm (n10.grew h).os;rw [z4] at GV2;have GV2:=Lib.hid GV2;have Z7:=Lib.hid Z7;have B10:=Lib.hid n10.os.below;clear n10 z1 z2 z3 z4 i10 j10 hl2;go_wp2_with fail
   refine Z7.out.mono ?_;rintro e w11 ⟨rfl,ZC⟩;have B11:=Lib.hid ZC;clear ZC;go_wp2_with fail
   refine (AR2.out _ B11.out).mono ?_;rintro e w12 ⟨rfl,Zc⟩;obtain rfl:=Zc.symm;clear Zc;go_wp2_with fail
   refine (GV2.out _ B11.out).mono ?_;rintro e w13 ⟨rfl,ZB⟩;have B13:=Lib.hid (ah B11.out B11.out.size ZB);clear ZB;go_wp2;go_ret;exact ⟨rfl,ah B10.out B10.out.size B13.out⟩
end Go.Proofs.YtpibbcnkgdmcbaaGreatDoor
namespace Go.Proofs.YtpibbcnkgdmcbaaGreatDoor.callBack
open Go.RowKit aC aF aG aI au aD aB aA bf
theorem NZ {n:Int} (h:(Lit.int .u64 n).wf=true):0≤n∧n≤18446744073709551615:=by
 simp [Lit.wf,IntKind.min,IntKind.max,IntKind.signed,IntKind.bits] at h;omega
theorem walk (w:World) (L:Lay w) (n:Int) (wn:(Lit.int .u64 n).wf=true) (al:Int) (wal:(Lit.int .u64 al).wf=true):
 Calls Tryz.prog 3 #[.int .u64 n, .int .u64 al] w fun e w'=>e= .returned (.bool true)∧Below w.heap.size w w':=by
 have h2:=NZ wn;have h3:=NZ wal;obtain ⟨n',rfl⟩: ∃k:Nat,n=(k:Int):=⟨n.toNat,by omega⟩;obtain ⟨al',rfl⟩: ∃k:Nat,al=(k:Int):=⟨al.toNat,by omega⟩;exact Q_ w L (show n'≤_ by omega) (show al'≤_ by omega)
end Go.Proofs.YtpibbcnkgdmcbaaGreatDoor.callBack
