/- CallsD: texts of layers below, joined (CallI CallJ CallK CallL CallM). -/
import Derived.Test.YtpibbcnkgdmcbaaGreatDoorCallsC
set_option linter.unusedVariables false
set_option maxRecDepth 100000
set_option maxHeartbeats 4000000
namespace Go.Proofs.YtpibbcnkgdmcbaaGreatDoor
open Go.RowKit aC aF aG aI au aD aB aA bf
def iZ (F:FR) (x:Nat) (er:Int):FR:=if er≠0 then {F with err:=er} else {F with addr:=x}
def lY (F:FR) (er:Int):ByteArray:=if er≠0 then cK else if F.kd=3 then I_ else cK
def nQ (P:SY) (L:List Nat) (F:FR) (x:Nat) (er:Int):List Nat:=if er=0∧F.kd≠3∧F.z=true then splice L x (ay.fill (tK P x).1 []) else L
theorem qI (F:FR) (x:Nat) (er:Int):(iZ F x er).pg=F.pg∧(iZ F x er).t=F.t∧(iZ F x er).pc=F.pc∧(iZ F x er).ps=F.ps∧(iZ F x er).pu=F.pu∧(iZ F x er).kd=F.kd∧(iZ F x er).pages=F.pages∧(iZ F x er).took=F.took∧(iZ F x er).ad=F.ad:=by
 unfold iZ;split<;>exact ⟨rfl,rfl,rfl,rfl,rfl,rfl,rfl,rfl,rfl⟩
structure nM (P:SY) (L:List Nat) (x:Nat):Prop where
 fit:x+(tK P x).1≤L.length
 good: ∀X∈P.all,∀o∈X.L,aJ (splice L x (ay.fill (tK P x).1 [])) o.P
section
variable {w0 w w' w1:World} {C:fH w0} {K:kW w0 C} {s p q g f m k cap:Nat} {hb:Nat→Nat} {own own':Nat→Prop} {O:Nat→Nat→Prop} {B:Nat→List SB} {R:List SB} {P P':SY} {L L':List Nat} {S S' T:Nat→Prop} {F F':FR} {st st':ByteArray} {a:Option Addr}
theorem yj (n:aQ C K s p q hb S f m a k cap w P L F st w') {x:Nat} (hx:bM x) {er:Int} (hf:er=0→F.kd≠3→F.z=true→nM P L x):
 Calls Tryz.prog 73 #[.pointer (some ⟨f,0,none⟩), .int .u64 (x:Int), .int .i64 er] w' fun e w1=>e= .returned (.string (lY F er))∧aQ C K s p q hb S f m a k cap w P (nQ P L F x er) (iZ F x er) st w1:=by
 by_cases he:er=0
 · have d23:=n.fr.I5
   have z23:=n.fr.fz 23;have c0:=n.fr.Kh;have c3:=n.fr.UY;have c7:=n.fr.c_z;have n1:=n.put 23 (.int .u64 (x:Int)) {F with addr:=x} st rfl rfl rfl;have N1:=Lib.hid n1;have eF:iZ F x er={F with addr:=x}:=if_neg fun h=>h he;rw [eF];by_cases h3:F.kd=3
   · have e1:=Lib.hid (show lY F er=I_ by unfold lY;rw [if_neg (fun h=>h he),if_pos h3])
     have e2:=Lib.hid (show nQ P L F x er=L from if_neg fun h=>h.2.1 h3);subst he;rw [h3] at c3;clear n n1 eF h3 hf hx;go_enter Tryz.func73,Tryz.ntmps73
     go_wp2;go_ret;rw [e1.out,e2.out];exact ⟨rfl,N1.out⟩
   · have t3:(F.kd==3)=false:=by rw [beq_eq_false_iff_ne];exact h3
     obtain ⟨kd,hkd⟩: ∃kd,F.kd=kd:=⟨_,rfl⟩;have e1:=Lib.hid (show lY F er=cK by unfold lY;rw [if_neg (fun h=>h he),if_neg h3]);rw [hkd] at c3 t3;by_cases hz:F.z=true
     case neg=>
      have e2:=Lib.hid (show nQ P L F x er=L from if_neg fun h=>hz h.2.2);subst he;rw [show F.z=false from by cases hf:F.z with|true=>exact absurd hf hz|false=>rfl] at c7;clear n n1 eF h3 hf hx hkd hz;go_enter Tryz.func73,Tryz.ntmps73
      go_wp2;go_ret;rw [e1.out,e2.out];exact ⟨rfl,N1.out⟩
     case pos=>
      have e2:=Lib.hid (show nQ P L F x er=splice L x (ay.fill (tK P x).1 []) from if_pos ⟨he,h3,hz⟩);have ok:=hf he h3 hz;have U:=Lib.hid (fun w1 (n:aQ C K s p q hb S f m a k cap w P L {F with addr:=x} st w1)=>pI n.os hx);have c0':Hid (∀w1,aQ C K s p q hb S f m a k cap w P L {F with addr:=x} st w1→w1.cell? ⟨f,0,none⟩=some (.pointer (some ⟨s,0,none⟩))∧w1.cell? ⟨s,0,none⟩=some (.pointer (some ⟨p,0,none⟩))):=Lib.hid fun w1 n=>⟨n.fr.Kh,n.os.cs.c0⟩;have FL:=Lib.hid (fun w1 (n:aQ C K s p q hb S f m a k cap w P L {F with addr:=x} st w1)=>Ta n.os ok.fit ok.good);obtain ⟨u1,hu1⟩: ∃u1,(tK P x).1=u1:=⟨_,rfl⟩;obtain ⟨u2,hu2⟩: ∃u2,(tK P x).2=u2:=⟨_,rfl⟩;rw [hu1,hu2] at U;rw [hu1] at FL e2;subst he;rw [hz] at c7;clear n n1 eF h3 hf hx hkd hz ok hu1 hu2;go_enter Tryz.func73,Tryz.ntmps73
      go_wp2_with fail
      refine (U.out _ N1.out).mono ?_;rintro e w2 ⟨rfl,hb2⟩;have N2:=Lib.hid (N1.out.grew hb2);obtain ⟨b0,b1⟩:=c0'.out _ N2.out;clear hb2 c0 c3 c7 d23 z23;go_wp2_with fail
      refine (FL.out _ N2.out).mono ?_;rintro e w3 ⟨rfl,z3,u3⟩;have N3:=Lib.hid (N2.out.turn z3 u3);clear z3 u3 b0 b1;go_wp2;go_ret;rw [e1.out,e2.out];exact ⟨rfl,N3.out⟩
 · have t1:(er !=0)=true:=by rw [bne_iff_ne];exact he
   have e1:=Lib.hid (show lY F er=cK from if_pos he);have e2:=Lib.hid (show nQ P L F x er=L from if_neg fun h=>he h.1);have e3:=Lib.hid (show iZ F x er={F with err:=er} from if_pos he);have FA:=Lib.hid (sN n.fr er);have N:=Lib.hid n;clear n hf hx he;go_enter Tryz.func73,Tryz.ntmps73
   go_wp2_with fail
   refine FA.out.mono ?_;rintro e w2 ⟨rfl,h2,u2⟩;have N2:=Lib.hid (N.out.Ck h2 u2);clear h2 u2;go_wp2;go_ret;rw [e1.out,e2.out,e3.out];exact ⟨rfl,N2.out⟩
theorem Qh (n:aQ C K s p q hb S f m a k cap w P L F st w') (hr:P.A.r≤1000000000000) (hf:(resE P F.pg).2.1=0→F.kd≠3→F.z=true→nM (resE P F.pg).2.2 L (resE P F.pg).1):
 Calls Tryz.prog 40 #[.pointer (some ⟨f,0,none⟩)] w' fun e w1=>e= .returned (.string (lY F (resE P F.pg).2.1))∧aQ C K s p q hb S f m a k cap w (resE P F.pg).2.2 (nQ (resE P F.pg).2.2 L F (resE P F.pg).1 (resE P F.pg).2.1) (iZ F (resE P F.pg).1 (resE P F.pg).2.1) st w1:=by
 have c0:=n.fr.Kh;have c14:=n.fr.UR;have hU:bM (resE P F.pg).1:=by
  unfold resE;split
  · exact Nat.zero_le _
  · rename_i hz0
    rcases lS P.A n.os.vG F.pg with ⟨j,kk,_,_,e3,e4,_,_⟩|⟨hne,_⟩
    · rw [e3]
      have:=n.os.vG.S2;show (j:Int).toNat*16384≤_;rw [Int.toNat_natCast];omega
    · exact absurd hne hz0
 have RS:=Lib.hid (fun w1 (n:aQ C K s p q hb S f m a k cap w P L F st w1)=>Gc n.os F.pg hr);obtain ⟨rv,Xd⟩: ∃rv,resE P F.pg=rv:=⟨_,rfl⟩;rw [Xd] at RS hf hU⊢;have MD:=Lib.hid (fun w1 (n:aQ C K s p q hb S f m a k cap w rv.2.2 L F st w1)=>yj n hU hf);have N:=Lib.hid n;obtain ⟨x,er,P2⟩:=rv;obtain ⟨pg,hpg⟩: ∃pg,F.pg=pg:=⟨_,rfl⟩;rw [hpg] at c14 RS;simp only at RS MD⊢;have D:=Lib.hid (fun w1 P L (F':FR) (e:F'.pg=F.pg) (n:aQ C K s p q hb S f m a k cap w P L F' st w1)=>(And.intro n.fr.Kh (show w1.cell? ⟨f,14,none⟩=some (.int .i64 pg) by rw [←hpg,←e];exact n.fr.UR)));clear n hr hf hU Xd hpg;go_enter Tryz.func40,Tryz.ntmps40
 go_wp2;go_region_held3 (fun w'=>w'.cell? ⟨f,0,none⟩=some (.pointer (some ⟨s,0,none⟩))∧w'.cell? ⟨f,14,none⟩=some (.int .i64 pg)) (first|go_keep|exact ⟨c0,c14⟩|exact QN) (first
  |(go_at_call 74;(first|(with_reducible refine (RS.out _ N.out).mono ?_)|(refine (RS.out _ N.out.drew).mono ?_));rintro e w2 ⟨rfl,z2,u2⟩;have N2:=Lib.hid ((show aQ C K s p q hb S f m a k cap w P L F st w'.drew from N.out.drew).turn z2 u2);have QN:=D.out _ _ _ _ rfl N2.out;clear z2 u2)
  |(go_at_call 73;(with_reducible refine (MD.out _ N2.out).mono ?_);rintro e w3 ⟨rfl,n3⟩;have N3:=Lib.hid n3;have QN:=D.out _ _ _ _ (qI F x er).1 N3.out;clear n3))
 go_wp2;go_ret;exact ⟨rfl,N3.out⟩
end
end Go.Proofs.YtpibbcnkgdmcbaaGreatDoor
namespace Go.Proofs.YtpibbcnkgdmcbaaGreatDoor
open Go.RowKit aC aF aG aI au aD aB aA bf
section
variable {w0 w w' w1:World} {C:fH w0} {K:kW w0 C} {s p q g f m k cap:Nat} {hb:Nat→Nat} {own own':Nat→Prop} {O:Nat→Nat→Prop} {B:Nat→List SB} {R:List SB} {P P':SY} {L L':List Nat} {S S' T:Nat→Prop} {F F':FR} {st st':ByteArray} {a:Option Addr}
theorem OS.FV (z:OS C K s p q hb P L S w):(∀X∈P.all,GoodS X∧ ∀o∈X.L,aJ L o.P)∧L.length≤1048576:=by
 obtain ⟨⟨g,own,O,B,R,z1,z2⟩,h5,h6,h7⟩:=z;refine ⟨fun X hX=> ?_,by have:=z1.env.size;have:=z1.env.ar.good.S2;omega⟩;rw [z1.all] at hX;obtain ⟨b,hb1,rfl⟩:=List.mem_map.1 hX;have hs:=z1.env.dJ.sg b hb1;exact ⟨⟨hs.good,hs.pl,hs.pps⟩,fun o ho=>(hs.pg o ho).2.1⟩
theorem OS.J6 (z:OS C K s p q hb P L S w) {t:Nat} (ht:t<8):aO (P.H t):=by
 obtain ⟨⟨g,own,O,B,R,z1,z2⟩,_⟩:=z;exact z1.good t ht
theorem Km {t:Nat} (ht:t<8) {X:SG} (hX:X∈(P.H t).B):X∈P.all:=List.mem_append_left _ (List.mem_flatMap.2 ⟨t,List.mem_range.2 ht,hX⟩)
theorem LU (z:OS C K s p q hb P L S w) {t:Nat} (ht:t<8) (c:Int):bM (bF (P.H t) c).2.1:=by
 obtain ⟨h1,h2⟩:=z.FV;rcases rW (z.J6 ht) c with ⟨_,_,H1,X,o,_,_,h3,h4,_,h6,e⟩|⟨H1,e0,_,_,_,e⟩
 · rw [e]
   show bM (aP o.P).2.1;have hg:=(h1 X (Km ht h3)).2 o h4;cases hF:(aW o.P).F with
   |nil=>rw [jw hF] at h6;cases h6
   |cons x tl=>
    rw [iN hF];obtain ⟨r1,r2,_⟩:=kP hg;have hbk:=(r1 x (by rw [hF];exact List.mem_cons_self ..)).fits r2 hg.fit;have:=hg.s16;show x≤_;omega
 · rw [e];exact Nat.zero_le _
theorem aQ.ours (n:aQ C K s p q hb S f m a k cap w P L F st w') (h:Below w'.heap.size w' w1) (hw:w.heap.size≤w'.heap.size):aQ C K s p q hb (fun b=>S b∨(w'.heap.size≤b∧b<w1.heap.size)) f m a k cap w P L F st w1:=
 ⟨n.os.ours h,(n.fr.grew h).more fun b hb=> .inl hb,by
  have u:=n.un.step (ak h) fun _ x=>x.elim;refine ⟨u.os,u.tape,u.output,u.size,fun b hb hs=>u.block b hb fun e=>hs ?_⟩;rcases e with e|e
  · exact .inl e
  · exact .inr fun e2=>e2.elim e fun e3=>by omega⟩
def After {w0:World} (C:fH w0) (K:kW w0 C) (s p q:Nat) (hb:Nat→Nat) (S:Nat→Prop) (f m:Nat) (w:World) (P:SY) (L:List Nat) (F:FR) (st:ByteArray) (w':World):Prop:=
 ∃S' a k cap,aQ C K s p q hb S' f m a k cap w P L F st w'∧(∀b,S b→S' b)∧ ∀b,S' b→S b∨w.heap.size≤b
theorem aQ.after (n:aQ C K s p q hb S f m a k cap w P L F st w'):After C K s p q hb S f m w P L F st w':=⟨S,a,k,cap,n,fun b h=>h,fun b h=> .inl h⟩
def fU (F:FR) (l:List Nat):FR:={F with pages:=l}
theorem aQ.list (n:aQ C K s p q hb S f m a k cap w P L F st w') (hw:w.heap.size≤w'.heap.size) (h:Below w'.heap.size w' w1) {a2:Option Addr} {k2 cap2:Nat} {l:List Nat} (hs:Seq Elem.jl w1 (.slice a2 k2 cap2) l) (hc:k2≤cap2∧cap2≤9223372036854775807) (hi: ∀b,In (.slice a2 k2 cap2) b→w'.heap.size≤b):
 aQ C K s p q hb (fun b=>S b∨(w'.heap.size≤b∧b<w1.heap.size)) f m a2 k2 cap2 w P L (fU F l) st (w1.setCell ⟨f,16,none⟩ (.slice a2 k2 cap2)):=by
 have n2:=n.ours h hw;have hf:=n.fr.blk.lt;exact ⟨n2.os.upd (jk w1 f 16 _) fun b e=>e▸n2.fr.sf,n2.fr.abb hs hc fun b hb=>(WC hs hb).imp id fun hl=>⟨.inr ⟨hi b hb,hl⟩,fun e=>by have:=hi b hb;omega⟩,n2.un.trans ((jk w1 f 16 _).mono fun b e=> .inl e)⟩
def vX (P:SY) (F:FR):SY:=P.oo F.t (bF (P.H F.t) F.pc).1 P.A
theorem TU (w:World) (T:TypeId) {c:Int} (hc:dH c):iF (w.alloc (.cells #[.int .i64 c] T)) (.slice (some ⟨w.heap.size,0,none⟩) 1 1) [c]:=
 ⟨Seq.new w T [c] 1,⟨_,_,_,rfl,Nat.le_refl _,by decide⟩,fun x hx=>by rw [List.mem_singleton.1 hx];exact hc⟩
theorem LV (n:aQ C K s p q hb S f m a k cap w P L F st w') (hw:w.heap.size≤w'.heap.size) (hc:dH F.pc)
 (hf: ∀L1,L1.length=L.length→Agree L L1 (bF (P.H F.t) F.pc).2.2.2→(bF (P.H F.t) F.pc).2.2.1=0→F.kd≠3→F.z=true→(∀X∈(vX P F).all,∀o∈X.L,aJ L1 o.P)→nM (vX P F) L1 (bF (P.H F.t) F.pc).2.1):
 Calls Tryz.prog 41 #[.pointer (some ⟨f,0,none⟩)] w' fun e w1=> ∃L1,L1.length=L.length∧Agree L L1 (bF (P.H F.t) F.pc).2.2.2∧
  ((bF (P.H F.t) F.pc).2.2.1=0→e= .returned (.string (lY F 0))∧aQ C K s p q hb S f m a k cap w (vX P F) (nQ (vX P F) L1 F (bF (P.H F.t) F.pc).2.1 0) (iZ F (bF (P.H F.t) F.pc).2.1 0) st w1)∧
  ((bF (P.H F.t) F.pc).2.2.1≠0→e= .returned (.string (fD (vX P F) (fU F (iD (bF (P.H F.t) F.pc).1 [F.pc]))))∧After C K s p q hb S f m w (vX P F) L1 (fU F (iD (bF (P.H F.t) F.pc).1 [F.pc])) st w1):=by
 have c1:=n.fr.Q6;have c12:=n.fr.UW;have t8:=n.fr.t8;have hx:=LU n.os t8 F.pc;have LC:=Lib.hid (fun w1 (n:aQ C K s p q hb S f m a k cap w P L F st w1)=>Ol n.os t8 hc);have hH:(vX P F).H F.t=(bF (P.H F.t) F.pc).1:=jo ..;obtain ⟨P1,hP1⟩: ∃P1,vX P F=P1:=⟨_,rfl⟩;have EJ:P.oo F.t (bF (P.H F.t) F.pc).1 P.A=P1:=hP1;rw [EJ] at LC;rw [hP1] at hf hH⊢;obtain ⟨lh,hlh⟩: ∃lh,bF (P.H F.t) F.pc=lh:=⟨_,rfl⟩;rw [hlh] at hx LC hf hH⊢;obtain ⟨H1,x,er,nl⟩:=lh;simp only at hx LC hf hH⊢;have N:=Lib.hid n;obtain ⟨pc,hpc⟩: ∃pc,F.pc=pc:=⟨_,rfl⟩;obtain ⟨hp,Mg⟩: ∃hp,hb F.t=hp:=⟨_,rfl⟩;have D:=Lib.hid (fun w1 P L S1 a1 k1 zf (F':FR) (n:aQ C K s p q hb S1 f m a1 k1 zf w P L F' st w1) (h1:F'.pc=F.pc) (h2:F'.t=F.t)=>(And.intro (show w1.cell? ⟨f,1,none⟩=some (.pointer (some ⟨hp,0,none⟩)) by rw [←Mg,←h2];exact n.fr.Q6) (show w1.cell? ⟨f,12,none⟩=some (.int .i64 pc) by rw [←hpc,←h1];exact n.fr.UW)));rw [hpc] at c12 LC hc⊢;rw [Mg] at c1 LC;have HF:=Lib.hid hf;have HX:=Lib.hid hx;have HC:=Lib.hid hc;have HW:=Lib.hid hw;have HH:=Lib.hid hH;have T8:=Lib.hid t8;have HHP:=Lib.hid Mg;clear n hf hx hc hw hP1 EJ hlh hpc Mg hH t8;by_cases he:er=0
 · subst he
   have MD:=Lib.hid (fun w1 L1 (h1:L1.length=L.length) (h2:Agree L L1 nl) (n:aQ C K s p q hb S f m a k cap w P1 L1 F st w1)=>yj n HX.out (er:=0) fun h3 h4 h5=>HF.out L1 h1 h2 rfl h4 h5 fun X hX o ho=>(n.os.FV.1 X hX).2 o ho);go_enter Tryz.func41,Tryz.ntmps41
   go_wp2;go_region_held3 (fun w'=>w'.cell? ⟨f,1,none⟩=some (.pointer (some ⟨hp,0,none⟩))∧w'.cell? ⟨f,12,none⟩=some (.int .i64 pc)) (first|go_keep|exact ⟨c1,c12⟩|exact QN) (first
    |(go_at_call 75;(first|(with_reducible refine (LC.out _ N.out).mono ?_)|(refine (LC.out _ N.out.drew).mono ?_));rintro e w2 ⟨rfl,L1,z2,hl1,ha1,u2⟩;have N2:=Lib.hid ((show aQ C K s p q hb S f m a k cap w P L F st w'.drew from N.out.drew).turn z2 u2);have QN:=D.out _ _ _ _ _ _ _ _ N2.out rfl rfl;have HL:=Lib.hid (And.intro hl1 ha1);clear z2 u2 hl1 ha1))
   go_wp2_with fail
   refine (MD.out _ _ HL.out.1 HL.out.2 N2.out).mono ?_;rintro e w3 ⟨rfl,n3⟩;have N3:=Lib.hid n3;clear n3;go_wp2;go_ret;exact ⟨L1,HL.out.1,HL.out.2,fun _=>⟨rfl,N3.out⟩,fun h=>absurd rfl h⟩
 · have t1:(er==0)=false:=by rw [beq_eq_false_iff_ne];exact he
   have HE:=Lib.hid he;clear he;have PG:=Lib.hid (fun w1 L1 (n:aQ C K s p q hb S f m a k cap w P1 L1 F st w1) (T:TypeId)=>Dl (n.os.alloc (.cells #[.int .i64 pc] T)) T8.out (TU w1 T HC.out) (by simp));rw [HH.out,HHP.out] at PG;have X7:=Lib.hid (fun w1 P L (n:aQ C K s p q hb S f m a k cap w P L F st w1)=>(And.intro n.fr.Xz (n.fr.fz 16)));have GO:=Lib.hid (fun w1 L1 S1 a1 k1 zf (n:aQ C K s p q hb S1 f m a1 k1 zf w P1 L1 (fU F (iD H1 [pc])) st w1)=>sH n.os n.fr);obtain ⟨gs,hgs⟩: ∃gs,fD P1 (fU F (iD H1 [pc]))=gs:=⟨_,rfl⟩;rw [hgs] at GO⊢;have HGS:=Lib.hid hgs;clear hgs;go_enter Tryz.func41,Tryz.ntmps41
   go_wp2;go_region_held3 (fun w'=>w'.cell? ⟨f,1,none⟩=some (.pointer (some ⟨hp,0,none⟩))∧w'.cell? ⟨f,12,none⟩=some (.int .i64 pc)) (first|go_keep|exact ⟨c1,c12⟩|exact QN) (first
    |(go_at_call 75;(first|(with_reducible refine (LC.out _ N.out).mono ?_)|(refine (LC.out _ N.out.drew).mono ?_));rintro e w2 ⟨rfl,L1,z2,hl1,ha1,u2⟩;have N2:=Lib.hid ((show aQ C K s p q hb S f m a k cap w P L F st w'.drew from N.out.drew).turn z2 u2);have QN:=D.out _ _ _ _ _ _ _ _ N2.out rfl rfl;have HL:=Lib.hid (And.intro hl1 ha1);have HW2:=Lib.hid (Nat.le_trans HW.out u2.size);clear z2 u2 hl1 ha1))
   obtain ⟨e1,e12⟩:=QN;have ne1:=World.new_ne w2 _ e1;have ne2:=World.new_ne w2 _ e12;go_wp2;go_region_held3 (fun w'=>w'.cell? ⟨f,1,none⟩=some (.pointer (some ⟨hp,0,none⟩))∧w'.cell? ⟨f,12,none⟩=some (.int .i64 pc)) (first|go_keep|exact ⟨e1,e12⟩|exact g12|exact h12) (first
    |(go_at_call 59;(first|(with_reducible refine (PG.out _ _ N2.out _).mono ?_)|(refine (PG.out _ _ N2.out.drew _).mono ?_));rintro e w4 ⟨a2,k2,cap2,rfl,hs,hk1,hk2,hi,hb4⟩;have N3:=Lib.hid ((show aQ C K s p q hb S f m a k cap w P1 L1 F st w2.drew from N2.out.drew).alloc (.cells #[.int .i64 pc] 3));have N4:=Lib.hid (N3.out.list (Nat.le_trans HW2.out (by simp)) hb4 hs ⟨hk1,hk2⟩ hi);have g12:=D.out _ _ _ _ _ _ _ _ (N3.out.grew hb4) rfl rfl;have h12:=D.out _ _ _ _ _ _ _ _ N4.out rfl rfl;have g16:=X7.out _ _ _ (N3.out.grew hb4);clear hs hi hb4))
   go_wp2_with fail
   refine (GO.out _ _ _ _ _ _ N4.out).mono ?_;rintro e w5 ⟨rfl,hb5⟩;have N5:=Lib.hid (N4.out.grew hb5);clear hb5;go_wp2;go_ret;exact ⟨L1,HL.out.1,HL.out.2,fun h=>absurd h HE.out,fun _=>⟨rfl,_,_,_,_,N5.out,fun b hb=> .inl hb,fun b hb=>hb.elim .inl fun h=> .inr (by have:=HW2.out;have:=h.1;simp at this;omega)⟩⟩
end
end Go.Proofs.YtpibbcnkgdmcbaaGreatDoor
namespace Go.Proofs.YtpibbcnkgdmcbaaGreatDoor
open Go.RowKit aC aF aG aI au aD aB aA bf
structure Z_ (F:FR):Prop where
 pc:dH F.pc
 ps:dH F.ps
 pg:dH F.pg
 pu:bM F.pu
def NoRoom (P:SY) (F:FR):Prop:=eX F.pc F.ps∨iX (P.H F.t) (dZ F.pc F.ps.toNat)=none
def zD (P:SY) (F:FR) (X:SG) (op pp a:Nat):SY:=P.oo F.t (jM (P.H F.t) X op pp F.pc F.ps.toNat a) P.A
def Yn (F:FR) (X:SG) (a:Nat):List Nat:=b_ (bR (aL X.pl a) (bQ F.pc F.ps.toNat) (h_ F.pc))
section
variable {w0 w w' w1:World} {C:fH w0} {K:kW w0 C} {s p q g f m k cap:Nat} {hb:Nat→Nat} {own own':Nat→Prop} {O:Nat→Nat→Prop} {B:Nat→List SB} {R:List SB} {P P':SY} {L L':List Nat} {S S' T:Nat→Prop} {F F':FR} {st st':ByteArray} {a:Option Addr}
theorem QB (n:aQ C K s p q hb S f m a k cap w P L F st w') (hp:Z_ F) (hn:NoRoom P F): ∃er:Int,er≠0∧Calls Tryz.prog 78 #[.pointer (some ⟨hb F.t,0,none⟩), .agg #[.int .i64 F.pc, .int .i64 F.ps, .int .i64 F.pg, .int .u64 (F.pu:Int)]] w' fun e w1=>e= .returned (.tuple #[.int .u64 0, .int .i64 er])∧aQ C K s p q hb S f m a k cap w P L F st w1:=by
 by_cases hbad:eX F.pc F.ps
 · exact ⟨2,by decide,(Bp n.os n.fr.t8 hp.pc hp.ps hp.pg hp.pu hbad).mono fun e w1 k=>⟨k.1,n.grew k.2⟩⟩
 · exact ⟨4,by decide,(zI n.os n.fr.t8 hp.pc hp.ps hp.pg hp.pu hbad (hn.resolve_left hbad)).mono fun e w1 k=>⟨k.1,n.grew k.2⟩⟩
theorem Ms (n:aQ C K s p q hb S f m a k cap w P L F st w') (hp:Z_ F) (hbad: ¬eX F.pc F.ps) {X:SG} {j:Nat} (hr:iX (P.H F.t) (dZ F.pc F.ps.toNat)=some (X,j)):Calls Tryz.prog 78 #[.pointer (some ⟨hb F.t,0,none⟩), .agg #[.int .i64 F.pc, .int .i64 F.ps, .int .i64 F.pg, .int .u64 (F.pu:Int)]] w' fun e w1=> ∃op pp L1,e= .returned (.tuple #[.int .u64 (aL X.pl j:Int), .int .i64 0])∧w'.heap.size≤op∧w'.heap.size≤pp∧L1.length=L.length∧Agree L L1 (Yn F X j)∧aQ C K s p q hb S f m a k cap w (zD P F X op pp j) L1 F st w1:=by
 refine (Om n.os n.fr.t8 hp.pc hp.ps hp.pg hp.pu hbad hr).mono ?_;rintro e w1 ⟨op,pp,k1,k2,k3,L1,z1,k4,k5,u⟩;exact ⟨op,pp,L1,k1,k2,k3,k4,k5,n.turn z1 u⟩
theorem OL (n:aQ C K s p q hb S f m a k cap w P L F st w') (hbad: ¬eX F.pc F.ps) {X:SG} {j:Nat} (hr:iX (P.H F.t) (dZ F.pc F.ps.toNat)=some (X,j)):bM (aL X.pl j):=by
 obtain ⟨h1,h2⟩:=qD hr;have hg:=n.os.J6 n.fr.t8;have hpl:=(hg.seg X h1).pl;have hl:=(hg.seg X h1).g.len;have hwd:=(planned (c:=F.pc) (sl:=F.ps.toNat) (by unfold eX at hbad⊢;omega)).1;have h3:=(aj.jc hwd h2).1;have h4:=aj.bI.lt h3 (j:=0) (by omega);unfold aL;omega
theorem qF (h:Fr w S f s m hb F st a k cap):w.cell? ⟨f,12,none⟩=some (.int .i64 F.pc)∧w.cell? ⟨f,13,none⟩=some (.int .i64 F.ps)∧w.cell? ⟨f,14,none⟩=some (.int .i64 F.pg)∧w.cell? ⟨f,15,none⟩=some (.int .u64 (F.pu:Int)):=⟨h.UW,h.ZQ,h.UR,h.ZP⟩
theorem Mt (n:aQ C K s p q hb S f m a k cap w P L F st w') (hp:Z_ F) (hn:NoRoom P F):
 Calls Tryz.prog 43 #[.pointer (some ⟨f,0,none⟩)] w' fun e w1=>e= .returned (.string je)∧aQ C K s p q hb S f m a k cap w P L F st w1:=by
 have c1:=n.fr.Q6;obtain ⟨c12,c13,c14,c15⟩:=qF n.fr;have FR:=fun w1 (n:aQ C K s p q hb S f m a k cap w P L F st w1)=>QB n hp hn;have D:=Lib.hid (fun w1 (n:aQ C K s p q hb S f m a k cap w P L F st w1)=>(And.intro n.fr.Q6 (qF n.fr)));have N:=Lib.hid n;obtain ⟨er,he,FR⟩:=FR _ n.drew;have FR:=Lib.hid FR;have t1:(er==0)=false:=by rw [beq_eq_false_iff_ne];exact he
 obtain ⟨pc,hpc⟩: ∃x,F.pc=x:=⟨_,rfl⟩;obtain ⟨ps,hps⟩: ∃x,F.ps=x:=⟨_,rfl⟩;obtain ⟨pg,hpg⟩: ∃x,F.pg=x:=⟨_,rfl⟩;obtain ⟨pu,Me⟩: ∃x,F.pu=x:=⟨_,rfl⟩;obtain ⟨hh,Mh⟩: ∃x,hb F.t=x:=⟨_,rfl⟩;rw [hpc,hps,hpg,Me,Mh] at FR D;rw [hpc] at c12;rw [hps] at c13;rw [hpg] at c14;rw [Me] at c15;rw [Mh] at c1;clear n hp hn he hpc hps hpg Me Mh;go_enter Tryz.func43,Tryz.ntmps43
 go_wp2;go_region_held3 (fun w'=>w'.cell? ⟨f,1,none⟩=some (.pointer (some ⟨hh,0,none⟩))∧w'.cell? ⟨f,12,none⟩=some (.int .i64 pc)∧w'.cell? ⟨f,13,none⟩=some (.int .i64 ps)∧w'.cell? ⟨f,14,none⟩=some (.int .i64 pg)∧w'.cell? ⟨f,15,none⟩=some (.int .u64 (pu:Int))) (first|go_keep|exact ⟨c1,c12,c13,c14,c15⟩|exact QN) (first
  |(go_at_call 78;(refine FR.out.mono ?_);rintro e w2 ⟨rfl,n2⟩;have N2:=Lib.hid n2;have QN:=D.out _ n2;clear n2))
 go_wp2;go_ret;exact ⟨rfl,N2.out⟩
end
end Go.Proofs.YtpibbcnkgdmcbaaGreatDoor
namespace Go.Proofs.YtpibbcnkgdmcbaaGreatDoor
open Go.RowKit aC aF aG aI au aD aB aA bf
def zm (P:SY):SY:={P with S:=⟨P.S.L,P.S.B,P.S.t,P.S.n+1⟩}
def yt (P:SY) (F:FR):FR:={F with seen:=bP.mO P.S.L,tag:=P.S.t}
def oI (P:SY) (F:FR):ByteArray:=if bP.mO P.S.L≠ -1 then I9 else if F.kd=1∨F.kd=3 then qW else cK
section
variable {w0 w w' w1:World} {C:fH w0} {K:kW w0 C} {s p q g f m k cap:Nat} {hb:Nat→Nat} {own own':Nat→Prop} {O:Nat→Nat→Prop} {B:Nat→List SB} {R:List SB} {P P':SY} {L L':List Nat} {S S' T:Nat→Prop} {F F':FR} {st st':ByteArray} {a:Option Addr}
theorem OS.stack (z:OS C K s p q hb P L S w) {Z:bP.SS} (k:SK w' s 2 Z) (W:dA (fun _=>False) (Yq s 2) w w'):OS C K s p q hb {P with S:=Z} L S w'∧Still S w w':=by
 obtain ⟨⟨g,own,O,B,R,z1,z2⟩,h5,h6,h7⟩:=z;have u:aH (fun b=>b=s) w w':=W.upd.mono fun b hb=>hb.elim (fun x=>x.elim) fun ⟨i,hi⟩=>hi.1;exact ⟨⟨⟨g,own,O,B,R,⟨z1.cs.turn k W,z1.env.upd u fun b e x=>z1.so.1 (e▸x),fun t ht=>K.upd (z1.hp t ht) u fun b e x=>z1.so.2 t ht (e▸x),z1.hB,z1.hR,z1.good,z1.ap,z1.two,z1.so,z1.Vz,z1.RZ,z1.VB,z1.lo⟩,z2⟩,h5.trans (u.below (fun b e=>z1.lo b (.inl e)) h5.size),fun b hb=>Nat.lt_of_lt_of_le (h6 b hb) u.size,h7⟩,u.mono fun b e=>z2 b (.inl e)⟩
theorem SX (z:OS C K s p q hb P L S w) (hg:bP.GoodS P.S) (hm:zA P.S):
 Calls Tryz.prog 79 #[.pointer (some ⟨s,2,none⟩)] w fun e w'=>e= .returned (.tuple #[.int .i64 (bP.mO P.S.L), .int .u64 (P.S.t:Int)])∧OS C K s p q hb (zm P) L S w'∧Still S w w':=by
 refine (P7 w z.cs.sk hg hm).mono ?_;rintro e w' ⟨rfl,k,W⟩;exact ⟨rfl,z.stack k (W.mono (fun _ h=>h) fun b i h=> .inr h.spl)⟩
theorem Eo (n:aQ C K s p q hb S f m a k cap w P L F st w') (hg:bP.GoodS P.S) (hm:zA P.S):
 Calls Tryz.prog 44 #[.pointer (some ⟨f,0,none⟩)] w' fun e w1=>e= .returned (.string (oI P F))∧aQ C K s p q hb S f m a k cap w (zm P) L (yt P F) st w1:=by
 have c0:=n.fr.Kh;have c17:=n.fr.Q5;have c19:=n.fr.VT;have z17:=n.fr.fz 17;have z19:=n.fr.fz 19;have LK:=Lib.hid (SX n.os hg hm);obtain ⟨tp,htp⟩: ∃x,bP.mO P.S.L=x:=⟨_,rfl⟩;obtain ⟨tg,Ze⟩: ∃x,P.S.t=x:=⟨_,rfl⟩;rw [htp,Ze] at LK;have HP:=Lib.hid (show ∀w1,aQ C K s p q hb S f m a k cap w (zm P) L F st w1→aQ C K s p q hb S f m a k cap w (zm P) L (yt P F) st ((w1.setCell ⟨f,17,none⟩ (.int .i64 tp)).setCell ⟨f,19,none⟩ (.int .u64 (tg:Int))) from fun w1 n=>by
  have n1:=n.put 17 (.int .i64 tp) {F with seen:=tp} st rfl rfl rfl;have n2:=n1.put 19 (.int .u64 (tg:Int)) {F with seen:=tp,tag:=tg} st rfl rfl rfl;have e:yt P F={F with seen:=tp,tag:=tg}:=by unfold yt;rw [htp,Ze]
  rw [e];exact n2)
 have D:=Lib.hid (fun w1 (n:aQ C K s p q hb S f m a k cap w (zm P) L F st w1)=>(And.intro (And.intro n.fr.Q5 n.fr.VT) (And.intro (n.fr.fz 17) (n.fr.fz 19))));have MA:=Lib.hid (fun w1 (n:aQ C K s p q hb S f m a k cap w (zm P) L (yt P F) st w1)=>vB n.fr);have hkd:(yt P F).kd=F.kd:=rfl;have N:=Lib.hid n;by_cases h1:tp= -1
 · by_cases h2:F.kd=1∨F.kd=3
   · have e1:=Lib.hid (show oI P F=qW by unfold oI;rw [htp,if_neg (fun h=>h h1),if_pos h2])
     rw [hkd,decide_eq_true h2] at MA;subst h1;clear n hg hm htp Ze hkd h2;go_enter Tryz.func44,Tryz.ntmps44
     go_wp2_with fail
     refine LK.out.mono ?_;rintro e w2 ⟨rfl,z2,u2⟩;have n2:=N.out.turn z2 u2;have N2:=Lib.hid n2;obtain ⟨⟨d17,d19⟩,d27,d29⟩:=D.out _ n2;have N3:=Lib.hid (HP.out _ n2);clear z2 u2 n2 c17 c19 z17 z19 c0;go_wp2_with fail
     refine (MA.out _ N3.out).mono ?_;rintro e w4 ⟨rfl,rfl⟩;go_wp2;go_ret;rw [e1.out];exact ⟨rfl,N3.out⟩
   · have e1:=Lib.hid (show oI P F=cK by unfold oI;rw [htp,if_neg (fun h=>h h1),if_neg h2])
     rw [hkd,decide_eq_false h2] at MA;subst h1;clear n hg hm htp Ze hkd h2;go_enter Tryz.func44,Tryz.ntmps44
     go_wp2_with fail
     refine LK.out.mono ?_;rintro e w2 ⟨rfl,z2,u2⟩;have n2:=N.out.turn z2 u2;have N2:=Lib.hid n2;obtain ⟨⟨d17,d19⟩,d27,d29⟩:=D.out _ n2;have N3:=Lib.hid (HP.out _ n2);clear z2 u2 n2 c17 c19 z17 z19 c0;go_wp2_with fail
     refine (MA.out _ N3.out).mono ?_;rintro e w4 ⟨rfl,rfl⟩;go_wp2;go_ret;rw [e1.out];exact ⟨rfl,N3.out⟩
 · have e1:=Lib.hid (show oI P F=I9 by unfold oI;rw [htp,if_pos h1])
   have t1:(tp != -1)=true:=by rw [bne_iff_ne];exact h1
   clear n hg hm htp Ze hkd h1;go_enter Tryz.func44,Tryz.ntmps44
   go_wp2_with fail
   refine LK.out.mono ?_;rintro e w2 ⟨rfl,z2,u2⟩;have n2:=N.out.turn z2 u2;have N2:=Lib.hid n2;obtain ⟨⟨d17,d19⟩,d27,d29⟩:=D.out _ n2;have N3:=Lib.hid (HP.out _ n2);clear z2 u2 n2 c17 c19 z17 z19 c0;go_wp2;go_ret;rw [e1.out];exact ⟨rfl,N3.out⟩
def iA (P:SY) (F:FR):SY:=P.oo F.t (cZ (P.H F.t) P.A (F.t+1)).1 (cZ (P.H F.t) P.A (F.t+1)).2.2
theorem Uz (n:aQ C K s p q hb S f m a k cap w P L F st w') (hr:P.A.r≤1000000000000) (he:(cZ (P.H F.t) P.A (F.t+1)).2.1≠0):
 Calls Tryz.prog 48 #[.pointer (some ⟨f,0,none⟩)] w' fun e w1=>e= .returned (.string cK)∧aQ C K s p q hb S f m a k cap w (iA P F) L {F with err:=(cZ (P.H F.t) P.A (F.t+1)).2.1} st w1:=by
 have c1:=n.fr.Q6;have GR:=Lib.hid (Jq n.os n.fr.t8 hr);obtain ⟨P1,hP1⟩: ∃P1,iA P F=P1:=⟨_,rfl⟩;have EJ:P.oo F.t (cZ (P.H F.t) P.A (F.t+1)).1 (cZ (P.H F.t) P.A (F.t+1)).2.2=P1:=hP1;rw [EJ] at GR;rw [hP1];obtain ⟨er,her⟩: ∃x,(cZ (P.H F.t) P.A (F.t+1)).2.1=x:=⟨_,rfl⟩;rw [her] at GR he⊢;have t1:(er !=0)=true:=by rw [bne_iff_ne];exact he
 have FA:=Lib.hid (fun w1 (n:aQ C K s p q hb S f m a k cap w P1 L F st w1)=>sN n.fr er);obtain ⟨hh,Mh⟩: ∃x,hb F.t=x:=⟨_,rfl⟩;rw [Mh] at c1 GR;have N:=Lib.hid n;clear n hr he hP1 EJ her Mh;go_enter Tryz.func48,Tryz.ntmps48
 go_wp2_with fail
 refine GR.out.mono ?_;rintro e w2 ⟨rfl,L1,z2,_,rfl,u2⟩;have N2:=Lib.hid (N.out.turn z2 u2);clear z2 u2;go_wp2_with fail
 refine (FA.out _ N2.out).mono ?_;rintro e w3 ⟨rfl,h3,u3⟩;have N3:=Lib.hid (N2.out.Ck h3 u3);clear h3 u3;go_wp2;go_ret;exact ⟨rfl,N3.out⟩
theorem Ic (P:SY) (F:FR):(iA P F).H F.t=(cZ (P.H F.t) P.A (F.t+1)).1:=jo ..
theorem Qx (n:aQ C K s p q hb S f m a k cap w P L F st w') (hp:Z_ F) (hbad: ¬eX F.pc F.ps) (hr:P.A.r≤1000000000000) (he:(cZ (P.H F.t) P.A (F.t+1)).2.1=0) {X:SG} {j:Nat} (hroom:iX ((iA P F).H F.t) (dZ F.pc F.ps.toNat)=some (X,j))
 (hf: ∀op pp L1,w'.heap.size≤op→w'.heap.size≤pp→L1.length=L.length→Agree L L1 (Yn F X j)→F.kd≠3→F.z=true→(∀Y∈(zD (iA P F) F X op pp j).all,∀o∈Y.L,aJ L1 o.P)→nM (zD (iA P F) F X op pp j) L1 (aL X.pl j)):
 Calls Tryz.prog 48 #[.pointer (some ⟨f,0,none⟩)] w' fun e w1=> ∃op pp L1,e= .returned (.string (lY F 0))∧w'.heap.size≤op∧w'.heap.size≤pp∧L1.length=L.length∧Agree L L1 (Yn F X j)∧(∀Y∈(zD (iA P F) F X op pp j).all,∀o∈Y.L,aJ L1 o.P)∧aQ C K s p q hb S f m a k cap w (zD (iA P F) F X op pp j) (nQ (zD (iA P F) F X op pp j) L1 F (aL X.pl j) 0) (iZ F (aL X.pl j) 0) st w1:=by
 have c1:=n.fr.Q6;have GR:=Jq n.os n.fr.t8 hr;have N:=Lib.hid n;obtain ⟨P1,hP1⟩: ∃P1,iA P F=P1:=⟨_,rfl⟩;have EJ:P.oo F.t (cZ (P.H F.t) P.A (F.t+1)).1 (cZ (P.H F.t) P.A (F.t+1)).2.2=P1:=hP1;rw [EJ,he] at GR;rw [hP1] at hroom hf⊢;have GR:=Lib.hid (GR.mono (R':=fun e w1=>e= .returned (.int .i64 0)∧aQ C K s p q hb S f m a k cap w P1 L F st w1∧w'.heap.size≤w1.heap.size) fun e w1 ⟨k1,L1,z1,_,k3,u⟩=>⟨k1,by subst k3;exact N.out.turn z1 u,u.size⟩);have FR:=Lib.hid (fun w1 (n:aQ C K s p q hb S f m a k cap w P1 L F st w1)=>Ms n hp hbad hroom);have hx: ∀w1,aQ C K s p q hb S f m a k cap w P1 L F st w1→bM (aL X.pl j):=fun w1 n=>OL n hbad hroom;have MD:=Lib.hid (fun w1 op pp L1 (hx:bM (aL X.pl j)) (h1:w'.heap.size≤op) (h2:w'.heap.size≤pp) (h3:L1.length=L.length) (h4:Agree L L1 (Yn F X j)) (n:aQ C K s p q hb S f m a k cap w (zD P1 F X op pp j) L1 F st w1)=>yj n hx (er:=0) fun _ h5 h6=>hf op pp L1 h1 h2 h3 h4 h5 h6 fun Y hY o ho=>(n.os.FV.1 Y hY).2 o ho);have D:=Lib.hid (fun w1 P1 L1 (F':bf.FR) (n:aQ C K s p q hb S f m a k cap w P1 L1 F' st w1) (h1:F'.t=F.t) (h2:F'.pc=F.pc) (h3:F'.ps=F.ps) (h4:F'.pg=F.pg) (h5:F'.pu=F.pu)=>show w1.cell? ⟨f,1,none⟩=some (.pointer (some ⟨hb F.t,0,none⟩))∧w1.cell? ⟨f,12,none⟩=some (.int .i64 F.pc)∧w1.cell? ⟨f,13,none⟩=some (.int .i64 F.ps)∧w1.cell? ⟨f,14,none⟩=some (.int .i64 F.pg)∧w1.cell? ⟨f,15,none⟩=some (.int .u64 (F.pu:Int)) by
  rw [←h1,←h2,←h3,←h4,←h5];exact ⟨n.fr.Q6,qF n.fr⟩)
 have HX:=Lib.hid hx;have MS:=Lib.hid (qI F (aL X.pl j) 0);obtain ⟨x,Hu⟩: ∃x,aL X.pl j=x:=⟨_,rfl⟩;obtain ⟨pc,hpc⟩: ∃x,F.pc=x:=⟨_,rfl⟩;obtain ⟨ps,hps⟩: ∃x,F.ps=x:=⟨_,rfl⟩;obtain ⟨pg,hpg⟩: ∃x,F.pg=x:=⟨_,rfl⟩;obtain ⟨pu,Me⟩: ∃x,F.pu=x:=⟨_,rfl⟩;obtain ⟨hh,Mh⟩: ∃x,hb F.t=x:=⟨_,rfl⟩;rw [hpc,hps,hpg,Me,Mh] at FR D;rw [hpc,hps,hpg,Me] at MS;rw [Hu] at FR MD HX MS⊢;rw [Mh] at c1 GR;have HQ:=Lib.hid (And.intro hpc (And.intro hps (And.intro hpg Me)));clear n hp hbad hr hroom hf hx he hP1 EJ hpc hps hpg Me Mh Hu;go_enter Tryz.func48,Tryz.ntmps48
 go_wp2_with fail
 refine GR.out.mono ?_;rintro e w2 ⟨rfl,n2,hw2⟩;have N2:=Lib.hid n2;have HW2:=Lib.hid hw2;obtain ⟨e1,e12,e13,e14,e15⟩:=D.out _ _ _ _ n2 rfl HQ.out.1 HQ.out.2.1 HQ.out.2.2.1 HQ.out.2.2.2;clear n2 c1 hw2;go_wp2;go_region_held3 (fun w'=>w'.cell? ⟨f,1,none⟩=some (.pointer (some ⟨hh,0,none⟩))∧w'.cell? ⟨f,12,none⟩=some (.int .i64 pc)∧w'.cell? ⟨f,13,none⟩=some (.int .i64 ps)∧w'.cell? ⟨f,14,none⟩=some (.int .i64 pg)∧w'.cell? ⟨f,15,none⟩=some (.int .u64 (pu:Int))) (first|go_keep|exact ⟨e1,e12,e13,e14,e15⟩|exact QN|exact h12) (first
  |(go_at_call 78;(refine (FR.out _ N2.out.drew).mono ?_);rintro e w3 ⟨op,pp,L1,rfl,k1,k2,k3,k4,n3⟩;have KK:=Lib.hid (And.intro (Nat.le_trans HW2.out k1) (And.intro (Nat.le_trans HW2.out k2) (And.intro k3 k4)));have N3:=Lib.hid n3;have QN:=D.out _ _ _ _ n3 rfl HQ.out.1 HQ.out.2.1 HQ.out.2.2.1 HQ.out.2.2.2;clear n3 k1 k2 k3 k4)
  |(go_at_call 73;(with_reducible refine (MD.out _ op pp L1 (HX.out _ N2.out) KK.out.1 KK.out.2.1 KK.out.2.2.1 KK.out.2.2.2 N3.out).mono ?_);rintro e w4 ⟨rfl,n4⟩;have N4:=Lib.hid n4;have h12:=D.out _ _ _ _ n4 MS.out.2.1 MS.out.2.2.1 MS.out.2.2.2.1 MS.out.1 MS.out.2.2.2.2.1;clear n4))
 go_wp2;go_ret;exact ⟨op,pp,L1,rfl,KK.out.1,KK.out.2.1,KK.out.2.2.1,KK.out.2.2.2,fun Y hY o ho=>(N3.out.os.FV.1 Y hY).2 o ho,N4.out⟩
end
end Go.Proofs.YtpibbcnkgdmcbaaGreatDoor
namespace Go.Proofs.YtpibbcnkgdmcbaaGreatDoor
open Go.RowKit aC aF aG aI au aD aB aA bf
theorem J8 {w:World} (LY:Lay w) {n a:Nat} (hn:n≤18446744073709551615) (ha:a≤18446744073709551615):Calls Tryz.prog 9 #[.int .u64 (n:Int), .int .u64 (a:Int)] w fun e w'=>e= .returned (.tuple #[Lu (dV n a).1, .int .i64 (dV n a).2])∧Below w.heap.size w w':=by
 by_cases h:iQ a=true∧n≤1048576
 · rw [J9 h.1 h.2];exact QE LY n a h.1 h.2
 · rw [yP h];exact UC n a hn ha h
def Kq (F:FR):Nat:=max F.al 1
def zi (F:FR):FR:=if (dV F.n (Kq F)).2≠0 then F else vo F (dV F.n (Kq F)).1.c ((dV F.n (Kq F)).1.sl:Int) ((dV F.n (Kq F)).1.sg:Int) (dV F.n (Kq F)).1.us
def sU (F:FR):ByteArray:=if (dV F.n (Kq F)).2≠0 then jJ else nS (dV F.n (Kq F)).1.c ((dV F.n (Kq F)).1.sg:Int)
section
variable {w0 w w' w1:World} {C:fH w0} {K:kW w0 C} {s p q g f m k cap:Nat} {hb:Nat→Nat} {own own':Nat→Prop} {O:Nat→Nat→Prop} {B:Nat→List SB} {R:List SB} {P P':SY} {L L':List Nat} {S S' T:Nat→Prop} {F F':FR} {st st':ByteArray} {a:Option Addr}
theorem Vg (n:aQ C K s p q hb S f m a k cap w P L F st w') (pc ps pg:Int) (pu:Nat):
 Calls Tryz.prog 58 #[.pointer (some ⟨f,0,none⟩), .agg #[.int .i64 pc, .int .i64 ps, .int .i64 pg, .int .u64 (pu:Int)]] w' fun e w1=>e= .returned (.string (nS pc pg))∧aQ C K s p q hb S f m a k cap w P L (vo F pc ps pg pu) st w1:=
 (Vh n.fr pc ps pg pu).mono fun e w1 k=>⟨k.1,n.Ck k.2.1 k.2.2⟩
theorem CB (LY:Lay w0) (n:aQ C K s p q hb S f m a k cap w P L F st w') (hn:bM F.n) (ha:bM F.al):
 Calls Tryz.prog 21 #[.pointer (some ⟨f,0,none⟩)] w' fun e w1=>e= .returned (.string (sU F))∧aQ C K s p q hb S f m a k cap w P L (zi F) st w1:=by
 have c5:=n.fr.c_n;have c6:=n.fr.ZR;have FO:=fun w1 (n:aQ C K s p q hb S f m a k cap w P L F st w1)=>J8 (Lay.below LY n.os.below) hn (show Kq F≤18446744073709551615 by unfold Kq;omega);have hmax:(max (F.al:Int) 1)=((Kq F:Nat):Int):=by unfold Kq;omega
 have N:=Lib.hid n;have hlt:=n.fr.blk.lt;have D:=Lib.hid (fun w1 (h:Below w'.heap.size w' w1)=>(And.intro (N.out.grew h).fr.c_n (N.out.grew h).fr.ZR));obtain ⟨fr,hfr⟩: ∃x,dV F.n (Kq F)=x:=⟨_,rfl⟩;have eF:zi F=if fr.2≠0 then F else vo F fr.1.c (fr.1.sl:Int) (fr.1.sg:Int) fr.1.us:=by unfold zi;rw [hfr]
 have eS:sU F=if fr.2≠0 then jJ else nS fr.1.c (fr.1.sg:Int):=by unfold sU;rw [hfr]
 rw [hfr] at FO;obtain ⟨⟨pc,sl,sg,us⟩,er⟩:=fr;unfold Lu at FO;simp only at FO eF eS;have FO:=Lib.hid FO;obtain ⟨fn,hfn⟩: ∃x,F.n=x:=⟨_,rfl⟩;obtain ⟨fa,hfa⟩: ∃x,F.al=x:=⟨_,rfl⟩;obtain ⟨ao,hao⟩: ∃x,Kq F=x:=⟨_,rfl⟩;rw [hfn] at c5 FO D;rw [hfa] at c6 hmax D;rw [hao] at hmax FO;have AK:=Lib.hid (fun w1 (n:aQ C K s p q hb S f m a k cap w P L F st w1)=>Vg n pc (sl:Int) (sg:Int) us);have hne:w'.heap.size≠f:=by omega
 have hne2:f≠w'.heap.size:=by omega
 have B1:=Lib.hid ((Below.refl w'.heap.size w').drew);have B2:=Lib.hid (((Below.refl w'.heap.size w').alloc (Nat.le_refl _) (.cells #[.int .i64 0, .int .i64 0, .int .i64 0, .int .u64 0] 38)).drew);have NB:=Lib.hid (aV.new w' 38 #[.int .i64 0, .int .i64 0, .int .i64 0, .int .u64 0]).drew;by_cases he:er=0
 · have E1:=Lib.hid (show sU F=nS pc (sg:Int) by rw [eS,if_neg (fun h=>h he)])
   have E2:=Lib.hid (show zi F=vo F pc (sl:Int) (sg:Int) us by rw [eF,if_neg (fun h=>h he)]);subst he;clear n LY hn ha hfr eF eS hfn hfa hao hlt;go_enter Tryz.func21,Tryz.ntmps21
   go_wp2;go_region_held3 (fun w'=>w'.cell? ⟨f,5,none⟩=some (.int .u64 (fn:Int))∧w'.cell? ⟨f,6,none⟩=some (.int .u64 (fa:Int))) (first|go_keep|exact ⟨c5,c6⟩|exact ZN) (first
    |(go_at_call 9;(with_reducible refine (FO.out _ (N.out.grew B1.out)).mono ?_);rintro e w2 ⟨rfl,hb2⟩;have B3:=Lib.hid (ah B1.out B1.out.size hb2);have ZN:=D.out _ B3.out;clear hb2)
    |(go_at_call 9;(with_reducible refine (FO.out _ (N.out.grew B2.out)).mono ?_);rintro e w2 ⟨rfl,hb2⟩;have B3:=Lib.hid (ah B2.out B2.out.size hb2);have ZN:=D.out _ B3.out;have nb:=NB.out.grew hb2;have a0:=nb.cell 0;have a1:=nb.cell 1;have a2:=nb.cell 2;have a3:=nb.cell 3;have g0:=nb.frozen 0;have g1:=nb.frozen 1;have g2:=nb.frozen 2;have g3:=nb.frozen 3;clear hb2 nb))
   · go_wp2_with fail
     refine (AK.out _ (N.out.grew (B3.out.alloc B3.out.size _))).mono ?_;rintro e w3 ⟨rfl,n3⟩;have N3:=Lib.hid n3;clear n3;go_wp2;go_ret;rw [E1.out,E2.out];exact ⟨rfl,N3.out⟩
   · go_wp2_with fail
     refine (AK.out _ (N.out.grew ((((B3.out.setCell (p:=⟨w'.heap.size,0,none⟩) (Nat.le_refl _) _).setCell (p:=⟨w'.heap.size,1,none⟩) (Nat.le_refl _) _).setCell (p:=⟨w'.heap.size,2,none⟩) (Nat.le_refl _) _).setCell (p:=⟨w'.heap.size,3,none⟩) (Nat.le_refl _) _))).mono ?_;rintro e w3 ⟨rfl,n3⟩;have N3:=Lib.hid n3;clear n3;go_wp2;go_ret;rw [E1.out,E2.out];exact ⟨rfl,N3.out⟩
   · go_wp2_with fail
     refine (AK.out _ (N.out.grew ((((B3.out.setCell (p:=⟨w'.heap.size,0,none⟩) (Nat.le_refl _) _).setCell (p:=⟨w'.heap.size,1,none⟩) (Nat.le_refl _) _).setCell (p:=⟨w'.heap.size,2,none⟩) (Nat.le_refl _) _).setCell (p:=⟨w'.heap.size,3,none⟩) (Nat.le_refl _) _))).mono ?_;rintro e w3 ⟨rfl,n3⟩;have N3:=Lib.hid n3;clear n3;go_wp2;go_ret;rw [E1.out,E2.out];exact ⟨rfl,N3.out⟩
 · have E1:=Lib.hid (show sU F=jJ by rw [eS,if_pos he])
   have E2:=Lib.hid (show zi F=F by rw [eF,if_pos he]);have t1:(er !=0)=true:=by rw [bne_iff_ne];exact he
   clear n LY hn ha hfr eF eS hfn hfa hao hlt he AK;go_enter Tryz.func21,Tryz.ntmps21
   go_wp2;go_region_held3 (fun w'=>w'.cell? ⟨f,5,none⟩=some (.int .u64 (fn:Int))∧w'.cell? ⟨f,6,none⟩=some (.int .u64 (fa:Int))) (first|go_keep|exact ⟨c5,c6⟩|exact ZN) (first
    |(go_at_call 9;(with_reducible refine (FO.out _ (N.out.grew B1.out)).mono ?_);rintro e w2 ⟨rfl,hb2⟩;have B3:=Lib.hid (ah B1.out B1.out.size hb2);have ZN:=D.out _ B3.out;clear hb2)
    |(go_at_call 9;(with_reducible refine (FO.out _ (N.out.grew B2.out)).mono ?_);rintro e w2 ⟨rfl,hb2⟩;have B3:=Lib.hid (ah B2.out B2.out.size hb2);have ZN:=D.out _ B3.out;have nb:=NB.out.grew hb2;have a0:=nb.cell 0;have a1:=nb.cell 1;have a2:=nb.cell 2;have a3:=nb.cell 3;have g0:=nb.frozen 0;have g1:=nb.frozen 1;have g2:=nb.frozen 2;have g3:=nb.frozen 3;clear hb2 nb))
   · go_wp2
     go_ret;rw [E1.out,E2.out];exact ⟨rfl,N.out.grew (B3.out.alloc B3.out.size _)⟩
   · go_wp2
     go_ret;rw [E1.out,E2.out];exact ⟨rfl,N.out.grew ((((B3.out.setCell (p:=⟨w'.heap.size,0,none⟩) (Nat.le_refl _) _).setCell (p:=⟨w'.heap.size,1,none⟩) (Nat.le_refl _) _).setCell (p:=⟨w'.heap.size,2,none⟩) (Nat.le_refl _) _).setCell (p:=⟨w'.heap.size,3,none⟩) (Nat.le_refl _) _)⟩
   · go_wp2
     go_ret;rw [E1.out,E2.out];exact ⟨rfl,N.out.grew ((((B3.out.setCell (p:=⟨w'.heap.size,0,none⟩) (Nat.le_refl _) _).setCell (p:=⟨w'.heap.size,1,none⟩) (Nat.le_refl _) _).setCell (p:=⟨w'.heap.size,2,none⟩) (Nat.le_refl _) _).setCell (p:=⟨w'.heap.size,3,none⟩) (Nat.le_refl _) _)⟩
def p9 (P:SY) (F:FR):FR:=fU F (iD (P.H F.t) [])
def zh (P:SY) (F:FR):ByteArray:=if fD P (p9 P F)=cK then kL else fD P (p9 P F)
end
end Go.Proofs.YtpibbcnkgdmcbaaGreatDoor
