/- CallsC: texts of layers below, joined (CallE CallF CallG CallH). -/
import Derived.Test.YtpibbcnkgdmcbaaGreatDoorCallsB
import Derived.Deep.RegionHeld3
set_option linter.unusedVariables false
set_option maxRecDepth 100000
set_option maxHeartbeats 1000000
namespace Go.Proofs.YtpibbcnkgdmcbaaGreatDoor
open Go.RowKit aC aF aG aI au aD aB aA bf
section
variable {w0 w w':World} {C:fH w0} {K:kW w0 C} {s p q f m k cap:Nat} {hb:Nat→Nat} {P P':SY} {L L':List Nat} {S S' T:Nat→Prop} {F F':FR} {st st':ByteArray} {a:Option Addr}
theorem Fr.Kh (h:Fr w S f s m hb F st a k cap):w.cell? ⟨f,0,none⟩=some (.pointer (some ⟨s,0,none⟩)):=h.c 0
theorem Fr.Q6 (h:Fr w S f s m hb F st a k cap):w.cell? ⟨f,1,none⟩=some (.pointer (some ⟨hb F.t,0,none⟩)):=h.c 1
theorem Fr.abX (h:Fr w S f s m hb F st a k cap):w.cell? ⟨f,2,none⟩=some (.int .u64 ((F.t+1:Nat):Int)):=h.c 2
theorem Fr.UY (h:Fr w S f s m hb F st a k cap):w.cell? ⟨f,3,none⟩=some (.int .i64 F.kd):=h.c 3
theorem Fr.Cy (h:Fr w S f s m hb F st a k cap):w.cell? ⟨f,4,none⟩=some (.int .u64 (F.ad:Int)):=h.c 4
theorem Fr.c_n (h:Fr w S f s m hb F st a k cap):w.cell? ⟨f,5,none⟩=some (.int .u64 (F.n:Int)):=h.c 5
theorem Fr.ZR (h:Fr w S f s m hb F st a k cap):w.cell? ⟨f,6,none⟩=some (.int .u64 (F.al:Int)):=h.c 6
theorem Fr.c_z (h:Fr w S f s m hb F st a k cap):w.cell? ⟨f,7,none⟩=some (.bool F.z):=h.c 7
theorem Fr.abY (h:Fr w S f s m hb F st a k cap):w.cell? ⟨f,8,none⟩=some (.bool F.fo):=h.c 8
theorem Fr.UQ (h:Fr w S f s m hb F st a k cap):w.cell? ⟨f,9,none⟩=some (.map (some m)):=h.c 9
theorem Fr.I4 (h:Fr w S f s m hb F st a k cap):w.cell? ⟨f,10,none⟩=some (.string st):=h.c 10
theorem Fr.IZ (h:Fr w S f s m hb F st a k cap):w.cell? ⟨f,11,none⟩=some (.int .i64 (F.took:Int)):=h.c 11
theorem Fr.UW (h:Fr w S f s m hb F st a k cap):w.cell? ⟨f,12,none⟩=some (.int .i64 F.pc):=h.c 12
theorem Fr.ZQ (h:Fr w S f s m hb F st a k cap):w.cell? ⟨f,13,none⟩=some (.int .i64 F.ps):=h.c 13
theorem Fr.UR (h:Fr w S f s m hb F st a k cap):w.cell? ⟨f,14,none⟩=some (.int .i64 F.pg):=h.c 14
theorem Fr.ZP (h:Fr w S f s m hb F st a k cap):w.cell? ⟨f,15,none⟩=some (.int .u64 (F.pu:Int)):=h.c 15
theorem Fr.Xz (h:Fr w S f s m hb F st a k cap):w.cell? ⟨f,16,none⟩=some (.slice a k cap):=h.c 16
theorem Fr.Q5 (h:Fr w S f s m hb F st a k cap):w.cell? ⟨f,17,none⟩=some (.int .i64 F.seen):=h.c 17
theorem Fr.VT (h:Fr w S f s m hb F st a k cap):w.cell? ⟨f,19,none⟩=some (.int .u64 (F.tag:Int)):=h.c 19
theorem Fr.I5 (h:Fr w S f s m hb F st a k cap):w.cell? ⟨f,23,none⟩=some (.int .u64 (F.addr:Int)):=h.c 23
theorem Fr.Ki (h:Fr w S f s m hb F st a k cap):w.cell? ⟨f,24,none⟩=some (.int .i64 F.err):=h.c 24
theorem Fr.fz (h:Fr w S f s m hb F st a k cap) (i:Nat):w.frozen? ⟨f,i,none⟩=false:=h.blk.frozen i
abbrev Nr (f:Nat) (w w':World):Prop:=aH (fun b=>b=f) w w'
theorem KU (h:Fr w S f s m hb F st a k cap):Calls Tryz.prog 13 #[.pointer (some ⟨f,0,none⟩)] w fun e w'=>e= .returned (.string st)∧w'=w:=by
 have c10:=h.I4;clear h;go_enter Tryz.func13,Tryz.ntmps13
 go_wp2;go_ret;exact ⟨rfl,rfl⟩
def isDone (st:ByteArray):Bool:=st.toList== [100,111,110,101]
theorem Cv (h:Fr w S f s m hb F st a k cap) {d:Bool} (hd:(st.toList== [100,111,110,101])=d):Calls Tryz.prog 24 #[.pointer (some ⟨f,0,none⟩)] w fun e w'=>e= .returned (.bool d)∧w'=w:=by
 have c10:=h.I4;have c0:=h.Kh;clear h;go_enter Tryz.func24,Tryz.ntmps24
 go_wp2;go_ret;exact ⟨rfl,rfl⟩
theorem vB (h:Fr w S f s m hb F st a k cap):Calls Tryz.prog 77 #[.pointer (some ⟨f,0,none⟩)] w fun e w'=>e= .returned (.bool (decide (F.kd=1∨F.kd=3)))∧w'=w:=by
 have c3:=h.UY;obtain ⟨kd,hk⟩: ∃kd,F.kd=kd:=⟨_,rfl⟩;rw [hk] at c3⊢;clear h hk;by_cases h1:kd=1
 · subst h1
   go_enter Tryz.func77,Tryz.ntmps77
   go_wp2;go_ret;exact ⟨rfl,rfl⟩
 · have t1:(kd==1)=false:=by rw [beq_eq_false_iff_ne];exact h1
   by_cases h2:kd=3
   · subst h2
     clear t1 h1;go_enter Tryz.func77,Tryz.ntmps77
     go_wp2;go_ret;exact ⟨rfl,rfl⟩
   · have t2:(kd==3)=false:=by rw [beq_eq_false_iff_ne];exact h2
     have e9:=Lib.hid (show decide (kd=1∨kd=3)=false from decide_eq_false fun h=>h.elim h1 h2);clear h1 h2;go_enter Tryz.func77,Tryz.ntmps77
     go_wp2;go_ret;exact ⟨by rw [e9.out];rfl,rfl⟩
theorem sN (h:Fr w S f s m hb F st a k cap) (er:Int):Calls Tryz.prog 72 #[.pointer (some ⟨f,0,none⟩), .int .i64 er] w fun e w'=>e= .returned (.string cK)∧Fr w' S f s m hb {F with err:=er} st a k cap∧Nr f w w':=by
 have c24:=h.Ki;have z24:=h.fz 24;have H:=Lib.hid h;clear h;go_enter Tryz.func72,Tryz.ntmps72
 go_wp2;go_ret;exact ⟨rfl,H.out.put 24 _ {F with err:=er} st rfl rfl rfl,jk w f 24 _⟩
theorem Lg (h:Fr w S f s m hb F st a k cap):Calls Tryz.prog 39 #[.pointer (some ⟨f,0,none⟩)] w fun e w'=>e= .returned (.string cK)∧Fr w' S f s m hb {F with err:=2} st a k cap∧Nr f w w':=by
 have FA:=Lib.hid (sN h 2);clear h;go_enter Tryz.func39,Tryz.ntmps39
 go_wp2_with fail
 refine FA.out.mono ?_;rintro e w1 ⟨rfl,h1,u1⟩;have H1:=Lib.hid (And.intro h1 u1);clear h1 u1;go_wp2;go_ret;exact ⟨rfl,H1.out⟩
theorem OU (w:World):Calls Tryz.prog 54 #[.pointer (some ⟨f,0,none⟩)] w fun e w'=>e= .returned (.string cK)∧w'=w:=by
 go_enter Tryz.func54,Tryz.ntmps54
 go_wp2;go_ret;exact ⟨rfl,rfl⟩
def jr (F:FR) (er:Int):FR:=if F.kd=2 then {F with err:=er} else F
theorem uJ (h:Fr w S f s m hb F st a k cap) (er:Int):Calls Tryz.prog 87 #[.pointer (some ⟨f,0,none⟩), .int .i64 er] w fun e w'=>e= .returned (.string cK)∧Fr w' S f s m hb (jr F er) st a k cap∧Nr f w w':=by
 have c3:=h.UY;have c24:=h.Ki;have z24:=h.fz 24;have H:=Lib.hid h;obtain ⟨kd,hk⟩: ∃kd,F.kd=kd:=⟨_,rfl⟩;rw [hk] at c3;by_cases h1:kd=2
 · have e1:=Lib.hid (show jr F er={F with err:=er} from if_pos (hk.trans h1))
   subst h1;clear h hk;go_enter Tryz.func87,Tryz.ntmps87
   go_wp2;go_ret;rw [e1.out];exact ⟨rfl,H.out.put 24 _ {F with err:=er} st rfl rfl rfl,jk w f 24 _⟩
 · have t1:(kd==2)=false:=by rw [beq_eq_false_iff_ne];exact h1
   have e1:=Lib.hid (show jr F er=F from if_neg fun e=>h1 (hk.symm.trans e));clear h1 h hk;go_enter Tryz.func87,Tryz.ntmps87
   go_wp2;go_ret;rw [e1.out];exact ⟨rfl,H.out,aH.refl _ _⟩
def vo (F:FR) (pc ps pg:Int) (pu:Nat):FR:={F with pc:=pc,ps:=ps,pg:=pg,pu:=pu}
def nS (pc pg:Int):ByteArray:=if 0<pg then qV else if pc≠ -1 then kV else jf
theorem Fr.plan (h:Fr w S f s m hb F st a k cap) (pc ps pg:Int) (pu:Nat) (o:Obj):
 Fr (((((w.setCell ⟨f,12,none⟩ (.int .i64 pc)).setCell ⟨f,13,none⟩ (.int .i64 ps)).setCell ⟨f,14,none⟩ (.int .i64 pg)).setCell ⟨f,15,none⟩ (.int .u64 (pu:Int))).alloc o) S f s m hb (vo F pc ps pg pu) st a k cap∧
 Nr f w (((((w.setCell ⟨f,12,none⟩ (.int .i64 pc)).setCell ⟨f,13,none⟩ (.int .i64 ps)).setCell ⟨f,14,none⟩ (.int .i64 pg)).setCell ⟨f,15,none⟩ (.int .u64 (pu:Int))).alloc o):=by
 have h1:=h.put 12 (.int .i64 pc) {F with pc:=pc} st rfl rfl rfl;have h2:=h1.put 13 (.int .i64 ps) {F with pc:=pc,ps:=ps} st rfl rfl rfl;have h3:=h2.put 14 (.int .i64 pg) {F with pc:=pc,ps:=ps,pg:=pg} st rfl rfl rfl;have h4:=h3.put 15 (.int .u64 (pu:Int)) (vo F pc ps pg pu) st rfl rfl rfl;exact ⟨h4.grew ((Below.refl _ _).alloc (Nat.le_refl _) o),((((jk w f 12 _).trans (jk _ f 13 _)).trans (jk _ f 14 _)).trans (jk _ f 15 _)).alloc o⟩
theorem Vh (h:Fr w S f s m hb F st a k cap) (pc ps pg:Int) (pu:Nat):Calls Tryz.prog 58 #[.pointer (some ⟨f,0,none⟩), .agg #[.int .i64 pc, .int .i64 ps, .int .i64 pg, .int .u64 (pu:Int)]] w fun e w'=>e= .returned (.string (nS pc pg))∧Fr w' S f s m hb (vo F pc ps pg pu) st a k cap∧Nr f w w':=by
 have c12:=h.UW;have c13:=h.ZQ;have c14:=h.UR;have c15:=h.ZP;have z12:=h.fz 12;have z13:=h.fz 13;have z14:=h.fz 14;have z15:=h.fz 15;have hlt:=h.blk.lt;have H:=Lib.hid (h.plan pc ps pg pu);clear h;by_cases h1:0<pg
 · have t1:decide (0<pg)=true:=decide_eq_true h1
   have e1:=Lib.hid (show nS pc pg=qV from if_pos h1);clear h1;go_enter Tryz.func58,Tryz.ntmps58
   go_wp2;go_ret;rw [e1.out];exact ⟨rfl,H.out _⟩
 · have t1:decide (0<pg)=false:=decide_eq_false h1
   by_cases h2:pc= -1
   · have e1:=Lib.hid (show nS pc pg=jf by unfold nS;rw [if_neg h1,if_neg (fun h=>h h2)])
     subst h2;clear h1;go_enter Tryz.func58,Tryz.ntmps58
     go_wp2;go_ret;rw [e1.out];exact ⟨rfl,H.out _⟩
   · have e1:=Lib.hid (show nS pc pg=kV by unfold nS;rw [if_neg h1,if_pos h2])
     have t2:(pc != -1)=true:=by rw [bne_iff_ne];exact h2
     clear h1 h2;go_enter Tryz.func58,Tryz.ntmps58
     go_wp2;go_ret;rw [e1.out];exact ⟨rfl,H.out _⟩
end
end Go.Proofs.YtpibbcnkgdmcbaaGreatDoor
namespace Go.Proofs.YtpibbcnkgdmcbaaGreatDoor
open Go.RowKit aC aF aG aI au aD aB aA bf
section
variable {w0 w w':World} {C:fH w0} {sp p g:Nat} {I:Nat→Prop} {c:Addr} {L L':List Nat} {X:SG}
theorem Sg.Wm (h:Sg C.Int' w sp p g I c L X) (m:bC w' p g L') (u:aH (fun k=>k=g) w w') (hl:L'.length=L.length) (hg: ∀o∈X.L,aJ L' o.P):Sg C.Int' w' sp p g I c L' X where
 int:=C.upd h.int u fun b hb x=>h.sep.2.1 (hb▸x)
 mem:=m
 len:=by rw [hl];exact h.len
 pl:=h.pl
 good:=h.good
 own o ho:=(h.own o ho).upd u fun x=>(h.sep.2.2 o ho).2.2.2.1 x
 pg o ho:=⟨(h.pg o ho).1.beside m u (fun x=>(h.pg o ho).1.ng x),hg o ho,(h.pg o ho).2.2⟩
 ops:=h.ops
 pps:=h.pps
 sep:=h.sep
end
def sK (P:SY) (a:Nat):Option bY:=P.all.findSome? fun X=>bJ X a
def tK (P:SY) (a:Nat):Nat×Int:=match fI P.hu a with
 |some k=>(P.hu k*16384,0)
 |none=>match sK P a with
  |some o=>Si o a
  |none=>(0,5)
section
variable {w0 w w':World} {C:fH w0} {K:kW w0 C} {s p q g f m k cap:Nat} {hb:Nat→Nat} {own:Nat→Prop} {O:Nat→Nat→Prop} {B:Nat→List SB} {R:List SB} {P P':SY} {L L':List Nat} {S S' T:Nat→Prop} {F F':FR} {st st':ByteArray} {a:Option Addr}
theorem qy.all (z:qy C K s p q hb g own O B R P L w):P.all=(cu B R).map fun b=>b.X:=by
 unfold SY.all cu;rw [List.map_append,List.map_flatMap,z.hR];rw [qN (B:=fun t=>(P.H t).B) (B':=fun t=>(B t).map fun b=>b.X) fun u hu=>(z.hB u (List.mem_range.1 hu)).symm]
theorem qy.found (z:qy C K s p q hb g own O B R P L w) {x:Nat}:(∃b∈cu B R,∃o,bJ b.X x=some o∧sK P x=some o)∨((∀b∈cu B R,bJ b.X x=none)∧sK P x=none):=by
 unfold sK;rw [z.all];cases h:((cu B R).map fun b=>b.X).findSome? fun X=>bJ X x with
 |none=>
  refine .inr ⟨fun b hb1=> ?_,rfl⟩;exact List.findSome?_eq_none_iff.1 h b.X (List.mem_map.2 ⟨b,hb1,rfl⟩)
 |some o=>
  obtain ⟨X,hX,e⟩:=List.exists_of_findSome?_eq_some h;obtain ⟨b,hb1,rfl⟩:=List.mem_map.1 hX;exact .inl ⟨b,hb1,o,e,rfl⟩
theorem pI (z:OS C K s p q hb P L S w) {x:Nat} (hx:bM x):Calls Tryz.prog 12 #[.pointer (some ⟨s,0,none⟩), .int .u64 (x:Int)] w fun e w'=>e= .returned (.tuple #[.int .u64 ((tK P x).1:Int), .int .i64 (tK P x).2])∧Below w.heap.size w w':=by
 obtain ⟨⟨g,own,O,B,R,z1,z2⟩,h5,h6,h7⟩:=z;refine (F6 z1 h5 hx).mono fun e w' k=>⟨?_,k.2.2⟩;unfold tK;cases hh:fI P.hu x with
 |some j=>exact k.1 j hh
 |none=>
  rcases z1.found (x:=x) with ⟨b,hb1,o,e1,e2⟩|⟨e1,e2⟩
  · rw [e2];exact (k.2.1 hh).1 b hb1 o e1
  · rw [e2];exact (k.2.1 hh).2 e1
theorem qy.write (z:qy C K s p q hb g own O B R P L w) (m:bC w' p g L') (u:aH (fun k=>k=g) w w') (hl:L'.length=L.length) (hg: ∀X∈P.all,∀o∈X.L,aJ L' o.P):qy C K s p q hb g own O B R P L' w':=by
 have hE: ∀k,k=g→EO p g own (cu B R) k:=fun k e=> .inr (.inl e);refine ⟨z.cs.upd u fun e=>z.so.1 (hE s e),⟨⟨m,fun b hb1=>(z.env.dJ.sg b hb1).Wm m u hl fun o ho=>hg b.X (by rw [z.all];exact List.mem_map.2 ⟨b,hb1,rfl⟩) o ho,z.env.dJ.ap,z.env.dJ.nd⟩,z.env.ar.upd u fun k hk e=>(z.env.ao k hk).2.1 e,by rw [hl];exact z.env.size,z.env.jK,z.env.ao⟩,fun t ht=>K.upd (z.hp t ht) u fun k hk x=>z.ap t ht k x (hE k hk),z.hB,z.hR,z.good,z.ap,z.two,z.so,z.Vz,z.RZ,z.VB,z.lo⟩
theorem Ta (z:OS C K s p q hb P L S w) {x n:Nat} (hn:x+n≤L.length) (hg: ∀X∈P.all,∀o∈X.L,aJ (splice L x (ay.fill n [])) o.P):
 Calls Tryz.prog 108 #[.pointer (some ⟨p,0,none⟩), .int .u64 (x:Int), .int .u64 (n:Int), .slice none 0 0] w fun e w'=>e= .returned (.int .i64 0)∧OS C K s p q hb P (splice L x (ay.fill n [])) S w'∧Still S w w':=by
 obtain ⟨⟨g,own,O,B,R,z1,z2⟩,h5,h6,h7⟩:=z;refine (AX z1.env.dJ.mem x n none 0 hn).mono ?_;rintro e w' ⟨rfl,m,u⟩;have hS: ∀k,k=g→ ¬S k:=fun k e=>z2 k (.inr (.inl (.inr (.inl e))));have hl:(splice L x (ay.fill n [])).length=L.length:=ay.aT (by rw [ay.bH];exact hn);exact ⟨rfl,⟨⟨g,own,O,B,R,z1.write m u hl hg,z2⟩,h5.trans (u.below (fun k e=>z1.lo k (.inr (.inl (.inr (.inl e))))) h5.size),fun k hk=>Nat.lt_of_lt_of_le (h6 k hk) u.size,h7⟩,u.mono hS⟩
def Cu (P:SY) (t:Nat):ByteArray:=if (P.H t).B= [] then cK else mE
theorem Cw (z:OS C K s p q hb P L S w) (h:Fr w S f s m hb F st a k cap):Calls Tryz.prog 98 #[.pointer (some ⟨f,0,none⟩)] w fun e w'=>e= .returned (.string (Cu P F.t))∧Below w.heap.size w w':=by
 have c1:=h.Q6;obtain ⟨⟨g,own,O,B,R,z1,z2⟩,h5,h6,h7⟩:=z;have SG:=K.vT w h5 (z1.hz h.t8);have hB:=z1.hB _ h.t8;obtain ⟨hp,Mg⟩: ∃hp,hb F.t=hp:=⟨_,rfl⟩;rw [Mg] at c1 SG;have SG:=Lib.hid SG;by_cases hn:(P.H F.t).B= []
 · have e1:=Lib.hid (show Cu P F.t=cK from if_pos hn)
   have hl:(B F.t).length=0:=by
    have:((B F.t).map fun b=>b.X).length=0:=by rw [hB,hn];rfl
    simpa using this
   have HL:=Lib.hid hl;clear z1 z2 h h5 h6 h7 hB hn Mg hl;go_enter Tryz.func98,Tryz.ntmps98
   go_wp2_with fail
   refine SG.out.mono ?_;rintro e w1 ⟨a1,n,cp,rfl,hseq,hc1,hc2,hin,hb1⟩;have hn0:n=0:=by rw [hseq.len,List.length_map];exact HL.out
   subst hn0;have B1:=Lib.hid hb1;clear hseq hc1 hc2 hin hb1 c1;go_wp2;go_ret;rw [e1.out];exact ⟨rfl,B1.out⟩
 · have e1:=Lib.hid (show Cu P F.t=mE from if_neg hn)
   have hl:0<(B F.t).length:=by
    have:((B F.t).map fun b=>b.X).length≠0:=by rw [hB];exact fun e=>hn (List.eq_nil_of_length_eq_zero e)
    rw [List.length_map] at this;omega
   have HL:=Lib.hid hl;clear z1 z2 h h5 h6 h7 hB hn Mg hl;go_enter Tryz.func98,Tryz.ntmps98
   go_wp2_with fail
   refine SG.out.mono ?_;rintro e w1 ⟨a1,n,cp,rfl,hseq,hc1,hc2,hin,hb1⟩;have hn0:0<n:=by rw [hseq.len,List.length_map];exact HL.out
   have t1:decide ((0:Int)<(n:Int))=true:=decide_eq_true (by omega);have t1':decide (0<n)=true:=decide_eq_true hn0;have B1:=Lib.hid hb1;clear hseq hc1 hc2 hin hb1 c1 hn0;go_wp2;go_ret;rw [e1.out];exact ⟨rfl,B1.out⟩
def fD (P:SY) (F:FR):ByteArray:=if F.pages≠ [] then o8 else if F.kd=1∨F.kd=3 then jf else if F.kd=5 then Cu P F.t else if F.fo=true then je else cK
theorem sH (z:OS C K s p q hb P L S w) (h:Fr w S f s m hb F st a k cap):Calls Tryz.prog 60 #[.pointer (some ⟨f,0,none⟩)] w fun e w'=>e= .returned (.string (fD P F))∧Below w.heap.size w w':=by
 have c3:=h.UY;have c8:=h.abY;have c16:=h.Xz;have hkl:=h.pages.len;by_cases h1:F.pages= []
 · have hk0:k=0:=by rw [hkl,h1];rfl
   have MA:=vB h;by_cases h2:F.kd=1∨F.kd=3
   · have e1:=Lib.hid (show fD P F=jf by unfold fD;rw [if_neg (fun e=>e h1),if_pos h2])
     rw [decide_eq_true h2] at MA;have MA:=Lib.hid MA;subst hk0;clear z h hkl h1 h2;go_enter Tryz.func60,Tryz.ntmps60
     go_wp2_with fail
     refine MA.out.mono ?_;rintro e w1 ⟨rfl,rfl⟩;go_wp2;go_ret;rw [e1.out];exact ⟨rfl,Below.refl _ _⟩
   · rw [decide_eq_false h2] at MA
     have MA:=Lib.hid MA;by_cases h3:F.kd=5
     · have e1:=Lib.hid (show fD P F=Cu P F.t by unfold fD;rw [if_neg (fun e=>e h1),if_neg h2,if_pos h3])
       have DO:=Lib.hid (Cw z h);obtain ⟨ds,hds⟩: ∃ds,Cu P F.t=ds:=⟨_,rfl⟩;rw [hds] at DO e1;rw [h3] at c3;subst hk0;clear z h hkl h1 h2 h3 hds;go_enter Tryz.func60,Tryz.ntmps60
       go_wp2_with fail
       refine MA.out.mono ?_;rintro e w1 ⟨rfl,rfl⟩;go_wp2_with fail
       refine DO.out.mono ?_;rintro e w2 ⟨rfl,hb2⟩;have B2:=Lib.hid hb2;clear hb2;go_wp2;go_ret;rw [e1.out];exact ⟨rfl,B2.out⟩
     · have t3:(F.kd==5)=false:=by rw [beq_eq_false_iff_ne];exact h3
       by_cases h4:F.fo=true
       · have e1:=Lib.hid (show fD P F=je by unfold fD;rw [if_neg (fun e=>e h1),if_neg h2,if_neg h3,if_pos h4])
         rw [h4] at c8;obtain ⟨kd,hkd⟩: ∃kd,F.kd=kd:=⟨_,rfl⟩;rw [hkd] at c3 t3;subst hk0;clear z h hkl h1 h2 h3 h4 hkd;go_enter Tryz.func60,Tryz.ntmps60
         go_wp2_with fail
         refine MA.out.mono ?_;rintro e w1 ⟨rfl,rfl⟩;go_wp2;go_ret;rw [e1.out];exact ⟨rfl,Below.refl _ _⟩
       · have e1:=Lib.hid (show fD P F=cK by unfold fD;rw [if_neg (fun e=>e h1),if_neg h2,if_neg h3,if_neg h4])
         have h4':F.fo=false:=by cases hf:F.fo with|true=>exact absurd hf h4|false=>rfl
         rw [h4'] at c8;obtain ⟨kd,hkd⟩: ∃kd,F.kd=kd:=⟨_,rfl⟩;rw [hkd] at c3 t3;subst hk0;clear z h hkl h1 h2 h3 h4 h4' hkd;go_enter Tryz.func60,Tryz.ntmps60
         go_wp2_with fail
         refine MA.out.mono ?_;rintro e w1 ⟨rfl,rfl⟩;go_wp2;go_ret;rw [e1.out];exact ⟨rfl,Below.refl _ _⟩
 · have hk0:0<k:=by rw [hkl];cases hp:F.pages with|nil=>exact absurd hp h1|cons x l=>exact Nat.succ_pos _
   have e1:=Lib.hid (show fD P F=o8 from if_pos h1);have t1:decide ((0:Int)<(k:Int))=true:=decide_eq_true (by omega);have t1':decide (0<k)=true:=decide_eq_true hk0;clear z h hkl h1 hk0;go_enter Tryz.func60,Tryz.ntmps60
   go_wp2;go_ret;rw [e1.out];exact ⟨rfl,Below.refl _ _⟩
end
end Go.Proofs.YtpibbcnkgdmcbaaGreatDoor
namespace Go.Proofs.YtpibbcnkgdmcbaaGreatDoor
open Go.RowKit aC aF aG aI au aD aB aA bf
structure aQ {w0:World} (C:fH w0) (K:kW w0 C) (s p q:Nat) (hb:Nat→Nat) (S:Nat→Prop) (f m:Nat) (a:Option Addr) (k cap:Nat) (w:World) (P:SY) (L:List Nat) (F:FR) (st:ByteArray) (w':World):Prop where
 os:OS C K s p q hb P L S w'
 fr:Fr w' S f s m hb F st a k cap
 un:CV S f w w'
section
variable {w0 w w' w1:World} {C:fH w0} {K:kW w0 C} {s p q g f m k cap:Nat} {hb:Nat→Nat} {own own':Nat→Prop} {O:Nat→Nat→Prop} {B:Nat→List SB} {R:List SB} {P P':SY} {L L':List Nat} {S S' T:Nat→Prop} {F F':FR} {st st':ByteArray} {a:Option Addr}
theorem aQ.start (z:OS C K s p q hb P L S w) (h:Fr w S f s m hb F st a k cap):aQ C K s p q hb S f m a k cap w P L F st w:=⟨z,h,aH.refl _ _⟩
theorem aQ.grew (z:aQ C K s p q hb S f m a k cap w P L F st w') (h:Below w'.heap.size w' w1):aQ C K s p q hb S f m a k cap w P L F st w1:=
 ⟨z.os.grew h,z.fr.grew h,z.un.step (ak h) fun _ x=>x.elim⟩
theorem aQ.drew (z:aQ C K s p q hb S f m a k cap w P L F st w'):aQ C K s p q hb S f m a k cap w P L F st w'.drew:=z.grew (Below.refl _ _).drew
theorem aQ.drewN (z:aQ C K s p q hb S f m a k cap w P L F st w') (n:Nat):aQ C K s p q hb S f m a k cap w P L F st (w'.drewN n):=z.grew (below_drewN (Below.refl _ _) n)
theorem aQ.alloc (z:aQ C K s p q hb S f m a k cap w P L F st w') (o:Obj):aQ C K s p q hb S f m a k cap w P L F st (w'.alloc o):=z.grew ((Below.refl _ _).alloc (Nat.le_refl _) o)
theorem aQ.turn (z:aQ C K s p q hb S f m a k cap w P L F st w') (z':OS C K s p q hb P' L' S w1) (u:Still S w' w1):aQ C K s p q hb S f m a k cap w P' L' F st w1:=
 ⟨z',z.fr.upd u fun b hb hs=>hb hs,z.un.trans (CV.of u)⟩
theorem aQ.Ck (z:aQ C K s p q hb S f m a k cap w P L F st w') (h:Fr w1 S f s m hb F' st' a k cap) (u:Nr f w' w1):aQ C K s p q hb S f m a k cap w P L F' st' w1:=
 ⟨z.os.upd u fun b e=>e▸z.fr.sf,h,z.un.trans (u.mono fun b e=> .inl e)⟩
theorem aQ.put (z:aQ C K s p q hb S f m a k cap w P L F st w') (i:Nat) (v:Value) (F':FR) (st':ByteArray) (e:(J7 s hb F st m (.slice a k cap)).setIfInBounds i v=J7 s hb F' st' m (.slice a k cap)) (hp:F'.pages=F.pages) (ht:F'.t=F.t):aQ C K s p q hb S f m a k cap w P L F' st' (w'.setCell ⟨f,i,none⟩ v):=
 z.Ck (z.fr.put i v F' st' e hp ht) (jk w' f i v)
theorem qy.arena (z:qy C K s p q hb g own O B R P L w) {A':St} (ia:bL w' q own' A') (hown: ∀k,own' k→own k∨w.heap.size≤k) (u:aH own w w') (hS:A'.S=P.A.S) (hp: ∀b∈cu B R,(b.X.pl,1)∈A'.l):qy C K s p q hb g own' O B R {P with A:=A'} L w':=by
 have uE: ∀k,own k→EO p g own (cu B R) k:=fun k hk=> .inr (.inr (.inl hk));have hE: ∀k,EO p g own' (cu B R) k→EO p g own (cu B R) k∨w.heap.size≤k:=fun k hk=>by
  rcases hk with x|x|x|x
  · exact .inl (.inl x)
  · exact .inl (.inr (.inl x))
  · exact (hown k x).imp (uE k) id
  · exact .inl (.inr (.inr (.inr x)))
 refine ⟨z.cs.upd u fun x=>z.so.1 (uE s x),⟨z.env.dJ.upd u fun k hk=>z.env.ao k hk,ia,by rw [hS];exact z.env.size,hp,fun k hk=> ?_⟩,fun t ht=>K.upd (z.hp t ht) u fun k hk x=>z.ap t ht k x (uE k hk),z.hB,z.hR,z.good,fun t ht k hk x=> ?_,z.two,⟨fun x=> ?_,z.so.2⟩,z.Vz,z.RZ,z.VB,fun k hk=> ?_⟩
 · rcases hown k hk with x|x
   · exact z.env.ao k x
   · refine ⟨fun e=> ?_,fun e=> ?_,fun b hb1 e=> ?_⟩
     · have:=z.env.dJ.mem.head.lt;omega
     · have:=z.env.dJ.mem.row.lt;omega
     · have:=z.env.dJ.lt hb1 e;omega
 · rcases hE k x with y|y
   · exact z.ap t ht k hk y
   · have:=(K.num (z.hp t ht)).2.1 k hk;omega
 · rcases hE s x with y|y
   · exact z.so.1 y
   · have:=z.cs.lt;omega
 · rcases hk with hk|hk|hk
   · exact z.lo k (.inl hk)
   · rcases hE k hk with y|y
     · exact z.lo k (.inr (.inl y))
     · have h1:=z.lo s (.inl rfl);have h2:=z.cs.lt;omega
   · exact z.lo k (.inr (.inr hk))
theorem OS.arena (z:OS C K s p q hb P L S w) {A':St} (hS:A'.S=P.A.S) (hp: ∀X∈P.all,(X.pl,1)∈A'.l) (k: ∀own,bL w q own P.A→ ∃own',bL w' q own' A'∧(∀k,own' k→own k∨w.heap.size≤k)∧aH own w w'):OS C K s p q hb {P with A:=A'} L S w'∧Still S w w':=by
 obtain ⟨⟨g,own,O,B,R,z1,z2⟩,h5,h6,h7⟩:=z;obtain ⟨own',ia,hown,u⟩:=k own z1.env.ar;have uE: ∀k,own k→C9 s p g own O (cu B R) k:=fun k hk=> .inr (.inl (.inr (.inr (.inl hk))));refine ⟨⟨⟨g,own',O,B,R,z1.arena ia hown u hS fun b hb1=>hp b.X (by rw [z1.all];exact List.mem_map.2 ⟨b,hb1,rfl⟩),fun k hk e=> ?_⟩,h5.trans (u.below (fun k hk=>z1.lo k (uE k hk)) h5.size),fun k hk=>Nat.lt_of_lt_of_le (h6 k hk) u.size,h7⟩,u.mono fun k hk=>z2 k (uE k hk)⟩;rcases hk with x|(x|x|x|x)|x
 · exact z2 k (.inl x) e
 · exact z2 k (.inr (.inl (.inl x))) e
 · exact z2 k (.inr (.inl (.inr (.inl x)))) e
 · rcases hown k x with y|y
   · exact z2 k (uE k y) e
   · have:=h6 k e;omega
 · exact z2 k (.inr (.inl (.inr (.inr (.inr x))))) e
 · exact z2 k (.inr (.inr x)) e
theorem OS.wz (z:OS C K s p q hb P L S w) {j:Nat} (hj:j<64) {v:Nat} (hv:v≤64) {V:Int} (hV:V=(v:Int)):OS C K s p q hb {P with hu:=fun i=>if i=j then v else P.hu i} L S (w.setCell ⟨s,77+j,none⟩ (.int .i64 V))∧Still S w (w.setCell ⟨s,77+j,none⟩ (.int .i64 V)):=by
 obtain ⟨⟨g,own,O,B,R,z1,z2⟩,h5,h6,h7⟩:=z;have u:=jk w s (77+j) (.int .i64 V);refine ⟨⟨⟨g,own,O,B,R,⟨z1.cs.wz hj hV,z1.env.upd u fun k e x=>z1.so.1 (e▸x),fun t ht=>K.upd (z1.hp t ht) u fun k e x=>z1.so.2 t ht (e▸x),z1.hB,z1.hR,z1.good,z1.ap,z1.two,z1.so,z1.Vz,fun i hi=> ?_,z1.VB,z1.lo⟩,z2⟩,h5.trans (u.below (fun k e=>z1.lo k (.inl e)) h5.size),fun k hk=>Nat.lt_of_lt_of_le (h6 k hk) u.size,h7⟩,u.mono fun k e=>z2 k (.inl e)⟩;show (if i=j then v else P.hu i)≤64;split
 · exact hv
 · exact z1.RZ i hi
end
end Go.Proofs.YtpibbcnkgdmcbaaGreatDoor
namespace Go.Proofs.YtpibbcnkgdmcbaaGreatDoor
open Go.RowKit aC aF aG aI au aD aB aA bf
def resE (P:SY) (n:Int):Nat×Int×SY:=
 if (reserve P.A n).2.1≠0 then (0,(reserve P.A n).2.1,{P with A:=(reserve P.A n).2.2})
 else ((reserve P.A n).1.toNat*16384,0,{P with A:=(reserve P.A n).2.2,hu:=fun i=>if i=(reserve P.A n).1.toNat then n.toNat else P.hu i})
def relE (P:SY) (k:Nat):Int×SY:=((release P.A (k:Int)).1,{P with A:=(release P.A (k:Int)).2,hu:=fun i=>if i=k then 0 else P.hu i})
theorem lS (A:St) (hA:aA.Good A) (n:Int):(∃a k:Nat,n=(k:Int)∧1≤k∧reserve A n=((a:Int),0,A.give a k)∧a+k≤A.S∧(∀x,x∈(A.give a k).l↔x∈A.l∨x=(a,k))∧ ∀x∈A.l,a+k≤x.1∨x.1+x.2≤a)∨((reserve A n).2.1≠0∧(reserve A n).2.2.l=A.l∧(reserve A n).2.2.S=A.S):=by
 unfold reserve;by_cases h1:aA.far A n
 · rw [if_pos h1];exact .inr ⟨(show (2:Int)≠0 by decide),rfl,rfl⟩
 · rw [if_neg h1]
   by_cases h2:A.T.headD false=true∨A.lim<aA.total A.l+n.toNat
   · rw [if_pos h2];exact .inr ⟨(show (4:Int)≠0 by decide),rfl,rfl⟩
   · rw [if_neg h2]
     cases hsp:aA.spot A.S A.l n.toNat with
     |none=>exact .inr ⟨(show (4:Int)≠0 by decide),rfl,rfl⟩
     |some a=>
      obtain ⟨s1,s2,_⟩:=aA.jY hsp;have h3:1≤n∧n≤(A.S:Int):=Decidable.not_not.1 h1;refine .inl ⟨a,n.toNat,by omega,by omega,rfl,s1,fun x=>(aA.mY hA.ok s2 (by omega)).trans Or.comm,fun x hx=> ?_⟩;have h4:=s2 _ hx;omega
section
variable {w0 w w' w1:World} {C:fH w0} {K:kW w0 C} {s p q g f m k cap:Nat} {hb:Nat→Nat} {own own':Nat→Prop} {O:Nat→Nat→Prop} {B:Nat→List SB} {R:List SB} {P P':SY} {L L':List Nat} {S S' T:Nat→Prop} {F F':FR} {st st':ByteArray} {a:Option Addr}
theorem OS.jK (z:OS C K s p q hb P L S w): ∀X∈P.all,(X.pl,1)∈P.A.l:=fun X hX=>by
 obtain ⟨⟨g,own,O,B,R,z1,z2⟩,h5,h6,h7⟩:=z;rw [z1.all] at hX;obtain ⟨b,hb1,rfl⟩:=List.mem_map.1 hX;exact z1.env.jK b hb1
theorem OS.vG (z:OS C K s p q hb P L S w):aA.Good P.A:=by
 obtain ⟨⟨g,own,O,B,R,z1,z2⟩,_⟩:=z;exact z1.env.ar.good
theorem OS.size (z:OS C K s p q hb P L S w):P.A.S*16384=L.length:=by
 obtain ⟨⟨g,own,O,B,R,z1,z2⟩,_⟩:=z;exact z1.env.size
theorem OS.RZ (z:OS C K s p q hb P L S w): ∀i,i<64→P.hu i≤64:=by
 obtain ⟨⟨g,own,O,B,R,z1,z2⟩,_⟩:=z;exact z1.RZ
theorem Wu (z:OS C K s p q hb P L S w) (n:Int) (hr:P.A.r≤1000000000000):
 Calls Tryz.prog 16 #[.pointer (some ⟨q,0,none⟩), .int .i64 n] w fun e w'=>e= .returned (.tuple #[.int .i64 (reserve P.A n).1, .int .i64 (reserve P.A n).2.1])∧OS C K s p q hb {P with A:=(reserve P.A n).2.2} L S w'∧Still S w w':=by
 have hpl:=z.jK;have hgA:=z.vG;have hS:=(mU P.A n).1;have hl: ∀X∈P.all,(X.pl,1)∈(reserve P.A n).2.2.l:=fun X hX=>by
  rcases lS P.A hgA n with ⟨a,k,e1,e2,e3,e4,e5,_⟩|⟨_,e2,_⟩
  · rw [e3];exact (e5 _).2 (.inl (hpl X hX))
  · rw [e2];exact hpl X hX
 have z':=z;obtain ⟨⟨g,own,O,B,R,z1,z2⟩,h5,h6,h7⟩:=z';refine (jC z1.env.ar n hr).mono ?_;rintro e w' ⟨rfl,k1,u⟩;obtain ⟨own',ia,ho⟩:=k1;have uE: ∀k,own k→C9 s p g own O (cu B R) k:=fun k hk=> .inr (.inl (.inr (.inr (.inl hk))));refine ⟨rfl,⟨⟨g,own',O,B,R,z1.arena ia ho u hS fun b hb1=>hl b.X (by rw [z1.all];exact List.mem_map.2 ⟨b,hb1,rfl⟩),fun k hk e=> ?_⟩,h5.trans (u.below (fun k hk=>z1.lo k (uE k hk)) h5.size),fun k hk=>Nat.lt_of_lt_of_le (h6 k hk) u.size,h7⟩,u.mono fun k hk=>z2 k (uE k hk)⟩;rcases hk with x|(x|x|x|x)|x
 · exact z2 k (.inl x) e
 · exact z2 k (.inr (.inl (.inl x))) e
 · exact z2 k (.inr (.inl (.inr (.inl x)))) e
 · rcases ho k x with y|y
   · exact z2 k (uE k y) e
   · have:=h6 k e;omega
 · exact z2 k (.inr (.inl (.inr (.inr (.inr x))))) e
 · exact z2 k (.inr (.inr x)) e
theorem Tc (z:OS C K s p q hb P L S w) {j:Nat} (hne: ∀X∈P.all,X.pl≠j):
 Calls Tryz.prog 127 #[.pointer (some ⟨q,0,none⟩), .int .i64 (j:Int)] w fun e w'=>e= .returned (.int .i64 (release P.A (j:Int)).1)∧OS C K s p q hb {P with A:=(release P.A (j:Int)).2} L S w'∧Still S w w':=by
 have hpl:=z.jK;have hS:=(rM P.A (j:Int)).1;have hl: ∀X∈P.all,(X.pl,1)∈(release P.A (j:Int)).2.l:=fun X hX=>by
  unfold release;split
  · show _∈del P.A.l _
    unfold del;rw [List.mem_filter];exact ⟨hpl X hX,by simpa using hne X hX⟩
  · exact hpl X hX
 have z':=z;obtain ⟨⟨g,own,O,B,R,z1,z2⟩,h5,h6,h7⟩:=z';refine (om z1.env.ar (j:Int)).mono ?_;rintro e w' ⟨rfl,k1,u⟩;obtain ⟨own',ia,ho⟩:=k1;have uE: ∀k,own k→C9 s p g own O (cu B R) k:=fun k hk=> .inr (.inl (.inr (.inr (.inl hk))));refine ⟨rfl,⟨⟨g,own',O,B,R,z1.arena ia ho u hS fun b hb1=>hl b.X (by rw [z1.all];exact List.mem_map.2 ⟨b,hb1,rfl⟩),fun k hk e=> ?_⟩,h5.trans (u.below (fun k hk=>z1.lo k (uE k hk)) h5.size),fun k hk=>Nat.lt_of_lt_of_le (h6 k hk) u.size,h7⟩,u.mono fun k hk=>z2 k (uE k hk)⟩;rcases hk with x|(x|x|x|x)|x
 · exact z2 k (.inl x) e
 · exact z2 k (.inr (.inl (.inl x))) e
 · exact z2 k (.inr (.inl (.inr (.inl x)))) e
 · rcases ho k x with y|y
   · exact z2 k (uE k y) e
   · have:=h6 k e;omega
 · exact z2 k (.inr (.inl (.inr (.inr (.inr x))))) e
 · exact z2 k (.inr (.inr x)) e
theorem Gc (z:OS C K s p q hb P L S w) (n:Int) (hr:P.A.r≤1000000000000):
 Calls Tryz.prog 74 #[.pointer (some ⟨s,0,none⟩), .int .i64 n] w fun e w'=>e= .returned (.tuple #[.int .u64 ((resE P n).1:Int), .int .i64 (resE P n).2.1])∧OS C K s p q hb (resE P n).2.2 L S w'∧Still S w w':=by
 have c1:=z.cs.c1;have RS:=Wu z n hr;rcases lS P.A z.vG n with ⟨j,k,rfl,e2,e3,e4,e5,_⟩|⟨hne,_,_⟩
 · have hS:=z.vG.S2
   have e9:resE P (k:Int)=(j*16384,0,{P with A:=P.A.give j k,hu:=fun i=>if i=j then k else P.hu i}):=by
    unfold resE;rw [e3,if_neg (by simp)];simp
   rw [e9];rw [e3] at RS;have RS:=Lib.hid RS;have hj:j<64:=by omega
   have hk:k≤64:=by omega
   have AD:=uR;have AD:=Lib.hid (fun w=>uR w (j:Int) 0 0 (by omega) (by omega) (by omega));have ea:=CP (g:=j) (l:=0) (o:=0) (by omega) (by omega) (by omega);rw [show ((0:Nat):Int)=0 from rfl] at ea;rw [ea.1,ea.2] at AD;have q1:(0:Int)≤(j:Int):=by omega
   have q2:(j:Int)<64:=by omega
   have PH:=Lib.hid (fun w' (z:OS C K s p q hb {P with A:=P.A.give j k} L S w')=>z.wz hj hk (V:=(k:Int)) rfl);have CH:=Lib.hid (fun w' (z:OS C K s p q hb {P with A:=P.A.give j k} L S w')=>(And.intro (z.cs.huge hj) (z.cs.frozen (77+j))));clear z hr e2 e3 e4 e5 hS e9 hj hk ea;go_enter Tryz.func74,Tryz.ntmps74
   go_wp2_with fail
   refine RS.out.mono ?_;rintro e w1 ⟨rfl,z1,u1⟩;obtain ⟨d1,d2⟩:=CH.out _ z1;have P1:=Lib.hid (PH.out _ z1);have U1:=Lib.hid u1;clear z1 u1 c1;go_wp2_with fail
   refine (AD.out _).mono ?_;rintro e w2 ⟨rfl,hb2⟩;have B2:=Lib.hid hb2;clear hb2;go_wp2
   go_ret2
   exact ⟨rfl,P1.out.1.grew B2.out,(U1.out.trans P1.out.2).step (ak B2.out) fun _ x=>x.elim⟩
 · have e9:resE P n=(0,(reserve P.A n).2.1,{P with A:=(reserve P.A n).2.2}):=if_pos hne
   rw [e9];obtain ⟨r1,hr1⟩: ∃x,(reserve P.A n).1=x:=⟨_,rfl⟩;obtain ⟨er,her⟩: ∃x,(reserve P.A n).2.1=x:=⟨_,rfl⟩;obtain ⟨A2,hA2⟩: ∃x,(reserve P.A n).2.2=x:=⟨_,rfl⟩;rw [hr1,her,hA2] at RS;rw [her,hA2];have t1:(er !=0)=true:=by rw [bne_iff_ne,←her];exact hne
   have RS:=Lib.hid RS;clear z hr hne e9 hr1 her hA2;go_enter Tryz.func74,Tryz.ntmps74
   go_wp2_with fail
   refine RS.out.mono ?_;rintro e w1 ⟨rfl,z1,u1⟩;have P1:=Lib.hid (And.intro z1 u1);clear z1 u1 c1;go_wp2
   go_ret2
   exact ⟨rfl,P1.out⟩
theorem Gd (z:OS C K s p q hb P L S w) {j:Nat} (hj:j<64) (hne: ∀X∈P.all,X.pl≠j):
 Calls Tryz.prog 88 #[.pointer (some ⟨s,0,none⟩), .int .i64 (j:Int)] w fun e w'=>e= .returned (.int .i64 (relE P j).1)∧OS C K s p q hb (relE P j).2 L S w'∧Still S w w':=by
 have d1:=z.cs.huge hj;have d2:=z.cs.frozen (77+j);have q1:(0:Int)≤(j:Int):=by omega
 have q2:(j:Int)<64:=by omega
 obtain ⟨z1,u1⟩:=z.wz hj (v:=0) (by omega) (V:=0) rfl;have c1:=z1.cs.c1;have RL:=Lib.hid (Tc z1 (j:=j) hne);have U1:=Lib.hid u1;have c1':w.cell? ⟨s,1,none⟩=some (.pointer (some ⟨q,0,none⟩)):=z.cs.c1;clear z z1 u1 hne hj c1;show Calls _ _ _ _ fun e w'=>e= .returned (.int .i64 (release P.A (j:Int)).1)∧OS C K s p q hb {P with A:=(release P.A (j:Int)).2,hu:=fun i=>if i=j then 0 else P.hu i} L S w'∧Still S w w';go_enter Tryz.func88,Tryz.ntmps88
 go_wp2_with fail
 refine RL.out.mono ?_;rintro e w1 ⟨rfl,z1,u1⟩;have P1:=Lib.hid (And.intro z1 (U1.out.trans u1));clear z1 u1;go_wp2;go_ret;exact ⟨rfl,P1.out⟩
end
end Go.Proofs.YtpibbcnkgdmcbaaGreatDoor
