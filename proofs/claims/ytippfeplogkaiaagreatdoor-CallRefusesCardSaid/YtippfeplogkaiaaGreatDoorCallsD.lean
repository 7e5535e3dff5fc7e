/- CallsD: texts of layers below, joined (CallI CallJ CallK CallL CallM). -/
import Derived.Test.YtippfeplogkaiaaGreatDoorCallsC
namespace Go.Proofs.YtippfeplogkaiaaGreatDoor
open Go.RowKit ListMath PageMath GeoMath SegMath ClassMath HeapMath QueueMath ArenaMath CallMath
set_option linter.unusedVariables false
set_option maxRecDepth 100000
def madeF (F:FR) (x:Nat) (er:Int):FR:=if er≠0 then {F with err:=er} else {F with addr:=x}
def madeS (F:FR) (er:Int):ByteArray:=if er≠0 then b_done else if F.kd=3 then b_copy else b_done
def madeL (P:SY) (L:List Nat) (F:FR) (x:Nat) (er:Int):List Nat:=if er=0∧F.kd≠3∧F.z=true then splice L x (MemMath.fill (usE P x).1 []) else L
theorem madeF_same (F:FR) (x:Nat) (er:Int):(madeF F x er).pg=F.pg∧(madeF F x er).t=F.t∧(madeF F x er).pc=F.pc∧(madeF F x er).ps=F.ps∧(madeF F x er).pu=F.pu∧(madeF F x er).kd=F.kd∧(madeF F x er).pages=F.pages∧(madeF F x er).took=F.took∧(madeF F x er).ad=F.ad:=by
  unfold madeF;split<;>exact ⟨rfl,rfl,rfl,rfl,rfl,rfl,rfl,rfl,rfl⟩
structure FillOk (P:SY) (L:List Nat) (x:Nat):Prop where
  fit:x+(usE P x).1≤L.length
  good: ∀X∈P.all,∀o∈X.L,GoodP (splice L x (MemMath.fill (usE P x).1 [])) o.P
section
variable {w0 w w' w1:World} {C:SgC w0} {K:HpC w0 C} {s p q g f m k cap:Nat} {hb:Nat→Nat} {own own':Nat→Prop} {O:Nat→Nat→Prop} {B:Nat→List SB} {R:List SB} {P P':SY} {L L':List Nat} {S S' T:Nat→Prop} {F F':FR} {st st':ByteArray} {a:Option Addr}
set_option maxHeartbeats 1000000 in
theorem made_now (n:NowF C K s p q hb S f m a k cap w P L F st w') {x:Nat} (hx:U64B x) {er:Int} (hf:er=0→F.kd≠3→F.z=true→FillOk P L x):
    Calls Tryz.prog 173 #[.pointer (some ⟨f,0,none⟩), .int .u64 (x:Int), .int .i64 er] w' fun e w1=>e= .returned (.string (madeS F er))∧NowF C K s p q hb S f m a k cap w P (madeL P L F x er) (madeF F x er) st w1:=by
  by_cases he:er=0
  · have d23:=n.fr.c_addr
    have z23:=n.fr.fz 23
    have c0:=n.fr.c_s
    have c3:=n.fr.c_kd
    have c7:=n.fr.c_z
    have n1:=n.put 23 (.int .u64 (x:Int)) {F with addr:=x} st rfl rfl rfl
    have N1:=Lib.hid n1
    have eF:madeF F x er={F with addr:=x}:=if_neg fun h=>h he
    rw [eF]
    by_cases h3:F.kd=3
    · have e1:=Lib.hid (show madeS F er=b_copy by unfold madeS;rw [if_neg (fun h=>h he),if_pos h3])
      have e2:=Lib.hid (show madeL P L F x er=L from if_neg fun h=>h.2.1 h3)
      subst he
      rw [h3] at c3
      clear n n1 eF h3 hf hx
      go_enter Tryz.func173,Tryz.ntmps173
      go_wp2
      go_ret
      rw [e1.out,e2.out]
      exact ⟨rfl,N1.out⟩
    · have t3:(F.kd==3)=false:=by rw [beq_eq_false_iff_ne];exact h3
      obtain ⟨kd,hkd⟩: ∃kd,F.kd=kd:=⟨_,rfl⟩
      have e1:=Lib.hid (show madeS F er=b_done by unfold madeS;rw [if_neg (fun h=>h he),if_neg h3])
      rw [hkd] at c3 t3
      by_cases hz:F.z=true
      case neg=>
        have e2:=Lib.hid (show madeL P L F x er=L from if_neg fun h=>hz h.2.2)
        subst he
        rw [show F.z=false from by cases hf:F.z with|true=>exact absurd hf hz|false=>rfl] at c7
        clear n n1 eF h3 hf hx hkd hz
        go_enter Tryz.func173,Tryz.ntmps173
        go_wp2
        go_ret
        rw [e1.out,e2.out]
        exact ⟨rfl,N1.out⟩
      case pos=>
        have e2:=Lib.hid (show madeL P L F x er=splice L x (MemMath.fill (usE P x).1 []) from if_pos ⟨he,h3,hz⟩)
        have ok:=hf he h3 hz
        have U:=Lib.hid (fun w1 (n:NowF C K s p q hb S f m a k cap w P L {F with addr:=x} st w1)=>sy_usable n.os hx)
        have c0':Hid (∀w1,NowF C K s p q hb S f m a k cap w P L {F with addr:=x} st w1→w1.cell? ⟨f,0,none⟩=some (.pointer (some ⟨s,0,none⟩))∧w1.cell? ⟨s,0,none⟩=some (.pointer (some ⟨p,0,none⟩))):=Lib.hid fun w1 n=>⟨n.fr.c_s,n.os.cs.c0⟩
        have FL:=Lib.hid (fun w1 (n:NowF C K s p q hb S f m a k cap w P L {F with addr:=x} st w1)=>sy_fill n.os ok.fit ok.good)
        obtain ⟨u1,hu1⟩: ∃u1,(usE P x).1=u1:=⟨_,rfl⟩
        obtain ⟨u2,hu2⟩: ∃u2,(usE P x).2=u2:=⟨_,rfl⟩
        rw [hu1,hu2] at U
        rw [hu1] at FL e2
        subst he
        rw [hz] at c7
        clear n n1 eF h3 hf hx hkd hz ok hu1 hu2
        go_enter Tryz.func173,Tryz.ntmps173
        go_wp2_with fail
        refine (U.out _ N1.out).mono ?_;rintro e w2 ⟨rfl,hb2⟩
        have N2:=Lib.hid (N1.out.grew hb2)
        obtain ⟨b0,b1⟩:=c0'.out _ N2.out
        clear hb2 c0 c3 c7 d23 z23
        go_wp2_with fail
        refine (FL.out _ N2.out).mono ?_;rintro e w3 ⟨rfl,z3,u3⟩
        have N3:=Lib.hid (N2.out.turn z3 u3)
        clear z3 u3 b0 b1
        go_wp2
        go_ret
        rw [e1.out,e2.out]
        exact ⟨rfl,N3.out⟩
  · have t1:(er !=0)=true:=by rw [bne_iff_ne];exact he
    have e1:=Lib.hid (show madeS F er=b_done from if_pos he)
    have e2:=Lib.hid (show madeL P L F x er=L from if_neg fun h=>he h.1)
    have e3:=Lib.hid (show madeF F x er={F with err:=er} from if_pos he)
    have FA:=Lib.hid (fail_any n.fr er)
    have N:=Lib.hid n
    clear n hf hx he
    go_enter Tryz.func173,Tryz.ntmps173
    go_wp2_with fail
    refine FA.out.mono ?_;rintro e w2 ⟨rfl,h2,u2⟩
    have N2:=Lib.hid (N.out.fput h2 u2)
    clear h2 u2
    go_wp2
    go_ret
    rw [e1.out,e2.out,e3.out]
    exact ⟨rfl,N2.out⟩
set_option maxHeartbeats 1000000 in
theorem huge_now (n:NowF C K s p q hb S f m a k cap w P L F st w') (hr:P.A.r≤1000000000000) (hf:(resE P F.pg).2.1=0→F.kd≠3→F.z=true→FillOk (resE P F.pg).2.2 L (resE P F.pg).1):
    Calls Tryz.prog 114 #[.pointer (some ⟨f,0,none⟩)] w' fun e w1=>e= .returned (.string (madeS F (resE P F.pg).2.1))∧NowF C K s p q hb S f m a k cap w (resE P F.pg).2.2 (madeL (resE P F.pg).2.2 L F (resE P F.pg).1 (resE P F.pg).2.1) (madeF F (resE P F.pg).1 (resE P F.pg).2.1) st w1:=by
  have c0:=n.fr.c_s
  have c14:=n.fr.c_pg
  have hU:U64B (resE P F.pg).1:=by
    unfold resE
    split
    · exact Nat.zero_le _
    · rename_i hz0
      rcases reserve_n P.A n.os.goodA F.pg with ⟨j,kk,_,_,e3,e4,_,_⟩|⟨hne,_⟩
      · rw [e3]
        have:=n.os.goodA.S2
        show (j:Int).toNat*16384≤_
        rw [Int.toNat_natCast];omega
      · exact absurd hne hz0
  have RS:=Lib.hid (fun w1 (n:NowF C K s p q hb S f m a k cap w P L F st w1)=>sy_reserve n.os F.pg hr)
  obtain ⟨rv,hrv⟩: ∃rv,resE P F.pg=rv:=⟨_,rfl⟩
  rw [hrv] at RS hf hU⊢
  have MD:=Lib.hid (fun w1 (n:NowF C K s p q hb S f m a k cap w rv.2.2 L F st w1)=>made_now n hU hf)
  have N:=Lib.hid n
  obtain ⟨x,er,P2⟩:=rv
  obtain ⟨pg,hpg⟩: ∃pg,F.pg=pg:=⟨_,rfl⟩
  rw [hpg] at c14 RS
  simp only at RS MD⊢
  have D:=Lib.hid (fun w1 P L (F':FR) (e:F'.pg=F.pg) (n:NowF C K s p q hb S f m a k cap w P L F' st w1)=>(And.intro n.fr.c_s (show w1.cell? ⟨f,14,none⟩=some (.int .i64 pg) by rw [←hpg,←e];exact n.fr.c_pg)))
  clear n hr hf hU hrv hpg
  go_enter Tryz.func114,Tryz.ntmps114
  go_wp2
  go_region_held3 (fun w'=>w'.cell? ⟨f,0,none⟩=some (.pointer (some ⟨s,0,none⟩))∧w'.cell? ⟨f,14,none⟩=some (.int .i64 pg)) (first|go_keep|exact ⟨c0,c14⟩|exact d12) (first
    |(go_at_call 174;(first|(with_reducible refine (RS.out _ N.out).mono ?_)|(refine (RS.out _ N.out.drew).mono ?_));rintro e w2 ⟨rfl,z2,u2⟩;have N2:=Lib.hid ((show NowF C K s p q hb S f m a k cap w P L F st w'.drew from N.out.drew).turn z2 u2);have d12:=D.out _ _ _ _ rfl N2.out;clear z2 u2)
    |(go_at_call 173;(with_reducible refine (MD.out _ N2.out).mono ?_);rintro e w3 ⟨rfl,n3⟩;have N3:=Lib.hid n3;have d12:=D.out _ _ _ _ (madeF_same F x er).1 N3.out;clear n3))
  go_wp2
  go_ret
  exact ⟨rfl,N3.out⟩
end
end Go.Proofs.YtippfeplogkaiaaGreatDoor
namespace Go.Proofs.YtippfeplogkaiaaGreatDoor
open Go.RowKit ListMath PageMath GeoMath SegMath ClassMath HeapMath QueueMath ArenaMath CallMath
set_option linter.unusedVariables false
set_option maxRecDepth 100000
section
variable {w0 w w' w1:World} {C:SgC w0} {K:HpC w0 C} {s p q g f m k cap:Nat} {hb:Nat→Nat} {own own':Nat→Prop} {O:Nat→Nat→Prop} {B:Nat→List SB} {R:List SB} {P P':SY} {L L':List Nat} {S S' T:Nat→Prop} {F F':FR} {st st':ByteArray} {a:Option Addr}
theorem OS.pgs (z:OS C K s p q hb P L S w):(∀X∈P.all,GoodS X∧ ∀o∈X.L,GoodP L o.P)∧L.length≤1048576:=by
  obtain ⟨⟨g,own,O,B,R,z1,z2⟩,h5,h6,h7⟩:=z
  refine ⟨fun X hX=> ?_,by have:=z1.env.size;have:=z1.env.ar.good.S2;omega⟩
  rw [z1.all] at hX
  obtain ⟨b,hb1,rfl⟩:=List.mem_map.1 hX
  have hs:=z1.env.shop.sg b hb1
  exact ⟨⟨hs.good,hs.pl,hs.pps⟩,fun o ho=>(hs.pg o ho).2.1⟩
theorem OS.goodH (z:OS C K s p q hb P L S w) {t:Nat} (ht:t<8):GoodH (P.H t):=by
  obtain ⟨⟨g,own,O,B,R,z1,z2⟩,_⟩:=z
  exact z1.good t ht
theorem all_H {t:Nat} (ht:t<8) {X:SG} (hX:X∈(P.H t).B):X∈P.all:=List.mem_append_left _ (List.mem_flatMap.2 ⟨t,List.mem_range.2 ht,hX⟩)
theorem local_u64 (z:OS C K s p q hb P L S w) {t:Nat} (ht:t<8) (c:Int):U64B (localH (P.H t) c).2.1:=by
  obtain ⟨h1,h2⟩:=z.pgs
  rcases localH_cases (z.goodH ht) c with ⟨_,_,H1,X,o,_,_,h3,h4,_,h6,e⟩|⟨H1,e0,_,_,_,e⟩
  · rw [e]
    show U64B (allocP o.P).2.1
    have hg:=(h1 X (all_H ht h3)).2 o h4
    cases hF:(refill o.P).F with
    |nil=>rw [allocP_nil hF] at h6;cases h6
    | cons x tl=>
      rw [allocP_cons hF]
      obtain ⟨r1,r2,_⟩:=refill_good hg
      have hbk:=(r1 x (by rw [hF];exact List.mem_cons_self ..)).fits r2 hg.fit
      have:=hg.s16
      show x≤_
      omega
  · rw [e];exact Nat.zero_le _
theorem NowF.ours (n:NowF C K s p q hb S f m a k cap w P L F st w') (h:Below w'.heap.size w' w1) (hw:w.heap.size≤w'.heap.size):NowF C K s p q hb (fun b=>S b∨(w'.heap.size≤b∧b<w1.heap.size)) f m a k cap w P L F st w1:=
  ⟨n.os.ours h,(n.fr.grew h).more fun b hb=> .inl hb,by
    have u:=n.un.step (updFalse_of h) fun _ x=>x.elim
    refine ⟨u.os,u.tape,u.output,u.size,fun b hb hs=>u.block b hb fun e=>hs ?_⟩
    rcases e with e|e
    · exact .inl e
    · exact .inr fun e2=>e2.elim e fun e3=>by omega⟩
def After {w0:World} (C:SgC w0) (K:HpC w0 C) (s p q:Nat) (hb:Nat→Nat) (S:Nat→Prop) (f m:Nat) (w:World) (P:SY) (L:List Nat) (F:FR) (st:ByteArray) (w':World):Prop:=
  ∃S' a k cap,NowF C K s p q hb S' f m a k cap w P L F st w'∧(∀b,S b→S' b)∧ ∀b,S' b→S b∨w.heap.size≤b
theorem NowF.after (n:NowF C K s p q hb S f m a k cap w P L F st w'):After C K s p q hb S f m w P L F st w':=⟨S,a,k,cap,n,fun b h=>h,fun b h=> .inl h⟩
def pagesF (F:FR) (l:List Nat):FR:={F with pages:=l}
theorem NowF.list (n:NowF C K s p q hb S f m a k cap w P L F st w') (hw:w.heap.size≤w'.heap.size) (h:Below w'.heap.size w' w1) {a2:Option Addr} {k2 cap2:Nat} {l:List Nat} (hs:Seq Elem.u64s w1 (.slice a2 k2 cap2) l) (hc:k2≤cap2∧cap2≤9223372036854775807) (hi: ∀b,In (.slice a2 k2 cap2) b→w'.heap.size≤b):
    NowF C K s p q hb (fun b=>S b∨(w'.heap.size≤b∧b<w1.heap.size)) f m a2 k2 cap2 w P L (pagesF F l) st (w1.setCell ⟨f,16,none⟩ (.slice a2 k2 cap2)):=by
  have n2:=n.ours h hw
  have hf:=n.fr.blk.lt
  exact ⟨n2.os.upd (upd_at w1 f 16 _) fun b e=>e▸n2.fr.sf,n2.fr.putP hs hc fun b hb=>(seq_lt hs hb).imp id fun hl=>⟨.inr ⟨hi b hb,hl⟩,fun e=>by have:=hi b hb;omega⟩,n2.un.trans ((upd_at w1 f 16 _).mono fun b e=> .inl e)⟩
def locP (P:SY) (F:FR):SY:=P.putH F.t (localH (P.H F.t) F.pc).1 P.A
theorem one_arr (w:World) (T:TypeId) {c:Int} (hc:I64B c):Arr (w.alloc (.cells #[.int .i64 c] T)) (.slice (some ⟨w.heap.size,0,none⟩) 1 1) [c]:=
  ⟨Seq.new w T [c] 1,⟨_,_,_,rfl,Nat.le_refl _,by decide⟩,fun x hx=>by rw [List.mem_singleton.1 hx];exact hc⟩
set_option maxHeartbeats 2000000 in
theorem local_now (n:NowF C K s p q hb S f m a k cap w P L F st w') (hw:w.heap.size≤w'.heap.size) (hc:I64B F.pc)
    (hf: ∀L1,L1.length=L.length→Agree L L1 (localH (P.H F.t) F.pc).2.2.2→(localH (P.H F.t) F.pc).2.2.1=0→F.kd≠3→F.z=true→(∀X∈(locP P F).all,∀o∈X.L,GoodP L1 o.P)→FillOk (locP P F) L1 (localH (P.H F.t) F.pc).2.1):
    Calls Tryz.prog 115 #[.pointer (some ⟨f,0,none⟩)] w' fun e w1=> ∃L1,L1.length=L.length∧Agree L L1 (localH (P.H F.t) F.pc).2.2.2∧
      ((localH (P.H F.t) F.pc).2.2.1=0→e= .returned (.string (madeS F 0))∧NowF C K s p q hb S f m a k cap w (locP P F) (madeL (locP P F) L1 F (localH (P.H F.t) F.pc).2.1 0) (madeF F (localH (P.H F.t) F.pc).2.1 0) st w1)∧
      ((localH (P.H F.t) F.pc).2.2.1≠0→e= .returned (.string (gathS (locP P F) (pagesF F (pagesH (localH (P.H F.t) F.pc).1 [F.pc]))))∧After C K s p q hb S f m w (locP P F) L1 (pagesF F (pagesH (localH (P.H F.t) F.pc).1 [F.pc])) st w1):=by
  have c1:=n.fr.c_h
  have c12:=n.fr.c_pc
  have t8:=n.fr.t8
  have hx:=local_u64 n.os t8 F.pc
  have LC:=Lib.hid (fun w1 (n:NowF C K s p q hb S f m a k cap w P L F st w1)=>sy_local n.os t8 hc)
  have hH:(locP P F).H F.t=(localH (P.H F.t) F.pc).1:=putH_same ..
  obtain ⟨P1,hP1⟩: ∃P1,locP P F=P1:=⟨_,rfl⟩
  have hP1':P.putH F.t (localH (P.H F.t) F.pc).1 P.A=P1:=hP1
  rw [hP1'] at LC
  rw [hP1] at hf hH⊢
  obtain ⟨lh,hlh⟩: ∃lh,localH (P.H F.t) F.pc=lh:=⟨_,rfl⟩
  rw [hlh] at hx LC hf hH⊢
  obtain ⟨H1,x,er,nl⟩:=lh
  simp only at hx LC hf hH⊢
  have N:=Lib.hid n
  obtain ⟨pc,hpc⟩: ∃pc,F.pc=pc:=⟨_,rfl⟩
  obtain ⟨hp,hhp⟩: ∃hp,hb F.t=hp:=⟨_,rfl⟩
  have D:=Lib.hid (fun w1 P L S1 a1 k1 cap1 (F':FR) (n:NowF C K s p q hb S1 f m a1 k1 cap1 w P L F' st w1) (h1:F'.pc=F.pc) (h2:F'.t=F.t)=>(And.intro (show w1.cell? ⟨f,1,none⟩=some (.pointer (some ⟨hp,0,none⟩)) by rw [←hhp,←h2];exact n.fr.c_h) (show w1.cell? ⟨f,12,none⟩=some (.int .i64 pc) by rw [←hpc,←h1];exact n.fr.c_pc)))
  rw [hpc] at c12 LC hc⊢
  rw [hhp] at c1 LC
  have HF:=Lib.hid hf;have HX:=Lib.hid hx;have HC:=Lib.hid hc;have HW:=Lib.hid hw;have HH:=Lib.hid hH;have T8:=Lib.hid t8;have HHP:=Lib.hid hhp
  clear n hf hx hc hw hP1 hP1' hlh hpc hhp hH t8
  by_cases he:er=0
  · subst he
    have MD:=Lib.hid (fun w1 L1 (h1:L1.length=L.length) (h2:Agree L L1 nl) (n:NowF C K s p q hb S f m a k cap w P1 L1 F st w1)=>made_now n HX.out (er:=0) fun h3 h4 h5=>HF.out L1 h1 h2 rfl h4 h5 fun X hX o ho=>(n.os.pgs.1 X hX).2 o ho)
    go_enter Tryz.func115,Tryz.ntmps115
    go_wp2
    go_region_held3 (fun w'=>w'.cell? ⟨f,1,none⟩=some (.pointer (some ⟨hp,0,none⟩))∧w'.cell? ⟨f,12,none⟩=some (.int .i64 pc)) (first|go_keep|exact ⟨c1,c12⟩|exact d12) (first
      |(go_at_call 175;(first|(with_reducible refine (LC.out _ N.out).mono ?_)|(refine (LC.out _ N.out.drew).mono ?_));rintro e w2 ⟨rfl,L1,z2,hl1,ha1,u2⟩;have N2:=Lib.hid ((show NowF C K s p q hb S f m a k cap w P L F st w'.drew from N.out.drew).turn z2 u2);have d12:=D.out _ _ _ _ _ _ _ _ N2.out rfl rfl;have HL:=Lib.hid (And.intro hl1 ha1);clear z2 u2 hl1 ha1))
    go_wp2_with fail
    refine (MD.out _ _ HL.out.1 HL.out.2 N2.out).mono ?_;rintro e w3 ⟨rfl,n3⟩
    have N3:=Lib.hid n3
    clear n3
    go_wp2
    go_ret
    exact ⟨L1,HL.out.1,HL.out.2,fun _=>⟨rfl,N3.out⟩,fun h=>absurd rfl h⟩
  · have t1:(er==0)=false:=by rw [beq_eq_false_iff_ne];exact he
    have HE:=Lib.hid he
    clear he
    have PG:=Lib.hid (fun w1 L1 (n:NowF C K s p q hb S f m a k cap w P1 L1 F st w1) (T:TypeId)=>sy_pages (n.os.alloc (.cells #[.int .i64 pc] T)) T8.out (one_arr w1 T HC.out) (by simp))
    rw [HH.out,HHP.out] at PG
    have D16:=Lib.hid (fun w1 P L (n:NowF C K s p q hb S f m a k cap w P L F st w1)=>(And.intro n.fr.c_pv (n.fr.fz 16)))
    have GO:=Lib.hid (fun w1 L1 S1 a1 k1 cap1 (n:NowF C K s p q hb S1 f m a1 k1 cap1 w P1 L1 (pagesF F (pagesH H1 [pc])) st w1)=>gatherOn_any n.os n.fr)
    obtain ⟨gs,hgs⟩: ∃gs,gathS P1 (pagesF F (pagesH H1 [pc]))=gs:=⟨_,rfl⟩
    rw [hgs] at GO⊢
    have HGS:=Lib.hid hgs
    clear hgs
    go_enter Tryz.func115,Tryz.ntmps115
    go_wp2
    go_region_held3 (fun w'=>w'.cell? ⟨f,1,none⟩=some (.pointer (some ⟨hp,0,none⟩))∧w'.cell? ⟨f,12,none⟩=some (.int .i64 pc)) (first|go_keep|exact ⟨c1,c12⟩|exact d12) (first
      |(go_at_call 175;(first|(with_reducible refine (LC.out _ N.out).mono ?_)|(refine (LC.out _ N.out.drew).mono ?_));rintro e w2 ⟨rfl,L1,z2,hl1,ha1,u2⟩;have N2:=Lib.hid ((show NowF C K s p q hb S f m a k cap w P L F st w'.drew from N.out.drew).turn z2 u2);have d12:=D.out _ _ _ _ _ _ _ _ N2.out rfl rfl;have HL:=Lib.hid (And.intro hl1 ha1);have HW2:=Lib.hid (Nat.le_trans HW.out u2.size);clear z2 u2 hl1 ha1))
    obtain ⟨e1,e12⟩:=d12
    have ne1:=World.new_ne w2 _ e1
    have ne2:=World.new_ne w2 _ e12
    go_wp2
    go_region_held3 (fun w'=>w'.cell? ⟨f,1,none⟩=some (.pointer (some ⟨hp,0,none⟩))∧w'.cell? ⟨f,12,none⟩=some (.int .i64 pc)) (first|go_keep|exact ⟨e1,e12⟩|exact g12|exact h12) (first
      |(go_at_call 61;(first|(with_reducible refine (PG.out _ _ N2.out _).mono ?_)|(refine (PG.out _ _ N2.out.drew _).mono ?_));rintro e w4 ⟨a2,k2,cap2,rfl,hs,hk1,hk2,hi,hb4⟩;have N3:=Lib.hid ((show NowF C K s p q hb S f m a k cap w P1 L1 F st w2.drew from N2.out.drew).alloc (.cells #[.int .i64 pc] 3));have N4:=Lib.hid (N3.out.list (Nat.le_trans HW2.out (by simp)) hb4 hs ⟨hk1,hk2⟩ hi);have g12:=D.out _ _ _ _ _ _ _ _ (N3.out.grew hb4) rfl rfl;have h12:=D.out _ _ _ _ _ _ _ _ N4.out rfl rfl;have g16:=D16.out _ _ _ (N3.out.grew hb4);clear hs hi hb4))
    go_wp2_with fail
    refine (GO.out _ _ _ _ _ _ N4.out).mono ?_;rintro e w5 ⟨rfl,hb5⟩
    have N5:=Lib.hid (N4.out.grew hb5)
    clear hb5
    go_wp2
    go_ret
    exact ⟨L1,HL.out.1,HL.out.2,fun h=>absurd h HE.out,fun _=>⟨rfl,_,_,_,_,N5.out,fun b hb=> .inl hb,fun b hb=>hb.elim .inl fun h=> .inr (by have:=HW2.out;have:=h.1;simp at this;omega)⟩⟩
end
end Go.Proofs.YtippfeplogkaiaaGreatDoor
namespace Go.Proofs.YtippfeplogkaiaaGreatDoor
open Go.RowKit ListMath PageMath GeoMath SegMath ClassMath HeapMath QueueMath ArenaMath CallMath
set_option linter.unusedVariables false
set_option maxRecDepth 100000
structure PlB (F:FR):Prop where
  pc:I64B F.pc
  ps:I64B F.ps
  pg:I64B F.pg
  pu:U64B F.pu
def NoRoom (P:SY) (F:FR):Prop:=badF F.pc F.ps∨roomH (P.H F.t) (wdOf F.pc F.ps.toNat)=none
def frP (P:SY) (F:FR) (X:SG) (op pp a:Nat):SY:=P.putH F.t (freshH (P.H F.t) X op pp F.pc F.ps.toNat a) P.A
def frY (F:FR) (X:SG) (a:Nat):List Nat:=newsOf (newPG (fromS X.pl a) (szOf F.pc F.ps.toNat) (nOf F.pc))
section
variable {w0 w w' w1:World} {C:SgC w0} {K:HpC w0 C} {s p q g f m k cap:Nat} {hb:Nat→Nat} {own own':Nat→Prop} {O:Nat→Nat→Prop} {B:Nat→List SB} {R:List SB} {P P':SY} {L L':List Nat} {S S' T:Nat→Prop} {F F':FR} {st st':ByteArray} {a:Option Addr}
theorem fresh_no (n:NowF C K s p q hb S f m a k cap w P L F st w') (hp:PlB F) (hn:NoRoom P F): ∃er:Int,er≠0∧Calls Tryz.prog 178 #[.pointer (some ⟨hb F.t,0,none⟩), .agg #[.int .i64 F.pc, .int .i64 F.ps, .int .i64 F.pg, .int .u64 (F.pu:Int)]] w' fun e w1=>e= .returned (.tuple #[.int .u64 0, .int .i64 er])∧NowF C K s p q hb S f m a k cap w P L F st w1:=by
  by_cases hbad:badF F.pc F.ps
  · exact ⟨2,by decide,(sy_fresh_bad n.os n.fr.t8 hp.pc hp.ps hp.pg hp.pu hbad).mono fun e w1 k=>⟨k.1,n.grew k.2⟩⟩
  · exact ⟨4,by decide,(sy_fresh_full n.os n.fr.t8 hp.pc hp.ps hp.pg hp.pu hbad (hn.resolve_left hbad)).mono fun e w1 k=>⟨k.1,n.grew k.2⟩⟩
theorem fresh_yes (n:NowF C K s p q hb S f m a k cap w P L F st w') (hp:PlB F) (hbad: ¬badF F.pc F.ps) {X:SG} {j:Nat} (hr:roomH (P.H F.t) (wdOf F.pc F.ps.toNat)=some (X,j)):Calls Tryz.prog 178 #[.pointer (some ⟨hb F.t,0,none⟩), .agg #[.int .i64 F.pc, .int .i64 F.ps, .int .i64 F.pg, .int .u64 (F.pu:Int)]] w' fun e w1=> ∃op pp L1,e= .returned (.tuple #[.int .u64 (fromS X.pl j:Int), .int .i64 0])∧w'.heap.size≤op∧w'.heap.size≤pp∧L1.length=L.length∧Agree L L1 (frY F X j)∧NowF C K s p q hb S f m a k cap w (frP P F X op pp j) L1 F st w1:=by
  refine (sy_fresh n.os n.fr.t8 hp.pc hp.ps hp.pg hp.pu hbad hr).mono ?_
  rintro e w1 ⟨op,pp,k1,k2,k3,L1,z1,k4,k5,u⟩
  exact ⟨op,pp,L1,k1,k2,k3,k4,k5,n.turn z1 u⟩
theorem room_u64 (n:NowF C K s p q hb S f m a k cap w P L F st w') (hbad: ¬badF F.pc F.ps) {X:SG} {j:Nat} (hr:roomH (P.H F.t) (wdOf F.pc F.ps.toNat)=some (X,j)):U64B (fromS X.pl j):=by
  obtain ⟨h1,h2⟩:=roomH_some hr
  have hg:=n.os.goodH n.fr.t8
  have hpl:=(hg.seg X h1).pl
  have hl:=(hg.seg X h1).g.len
  have hwd:=(planned (c:=F.pc) (sl:=F.ps.toNat) (by unfold badF at hbad⊢;omega)).1
  have h3:=(MarkMath.low_some hwd h2).1
  have h4:=MarkMath.allAt.lt h3 (j:=0) (by omega)
  unfold fromS
  omega
theorem plan_cells (h:Fr w S f s m hb F st a k cap):w.cell? ⟨f,12,none⟩=some (.int .i64 F.pc)∧w.cell? ⟨f,13,none⟩=some (.int .i64 F.ps)∧w.cell? ⟨f,14,none⟩=some (.int .i64 F.pg)∧w.cell? ⟨f,15,none⟩=some (.int .u64 (F.pu:Int)):=⟨h.c_pc,h.c_ps,h.c_pg,h.c_pu⟩
set_option maxHeartbeats 2000000 in
theorem freshS_no (n:NowF C K s p q hb S f m a k cap w P L F st w') (hp:PlB F) (hn:NoRoom P F):
    Calls Tryz.prog 117 #[.pointer (some ⟨f,0,none⟩)] w' fun e w1=>e= .returned (.string b_look)∧NowF C K s p q hb S f m a k cap w P L F st w1:=by
  have c1:=n.fr.c_h
  obtain ⟨c12,c13,c14,c15⟩:=plan_cells n.fr
  have FR:=fun w1 (n:NowF C K s p q hb S f m a k cap w P L F st w1)=>fresh_no n hp hn
  have D:=Lib.hid (fun w1 (n:NowF C K s p q hb S f m a k cap w P L F st w1)=>(And.intro n.fr.c_h (plan_cells n.fr)))
  have N:=Lib.hid n
  obtain ⟨er,he,FR⟩:=FR _ n.drew
  have FR:=Lib.hid FR
  have t1:(er==0)=false:=by rw [beq_eq_false_iff_ne];exact he
  obtain ⟨pc,hpc⟩: ∃x,F.pc=x:=⟨_,rfl⟩
  obtain ⟨ps,hps⟩: ∃x,F.ps=x:=⟨_,rfl⟩
  obtain ⟨pg,hpg⟩: ∃x,F.pg=x:=⟨_,rfl⟩
  obtain ⟨pu,hpu⟩: ∃x,F.pu=x:=⟨_,rfl⟩
  obtain ⟨hh,hhh⟩: ∃x,hb F.t=x:=⟨_,rfl⟩
  rw [hpc,hps,hpg,hpu,hhh] at FR D
  rw [hpc] at c12;rw [hps] at c13;rw [hpg] at c14;rw [hpu] at c15;rw [hhh] at c1
  clear n hp hn he hpc hps hpg hpu hhh
  go_enter Tryz.func117,Tryz.ntmps117
  go_wp2
  go_region_held3 (fun w'=>w'.cell? ⟨f,1,none⟩=some (.pointer (some ⟨hh,0,none⟩))∧w'.cell? ⟨f,12,none⟩=some (.int .i64 pc)∧w'.cell? ⟨f,13,none⟩=some (.int .i64 ps)∧w'.cell? ⟨f,14,none⟩=some (.int .i64 pg)∧w'.cell? ⟨f,15,none⟩=some (.int .u64 (pu:Int))) (first|go_keep|exact ⟨c1,c12,c13,c14,c15⟩|exact d12) (first
    |(go_at_call 178;(refine FR.out.mono ?_);rintro e w2 ⟨rfl,n2⟩;have N2:=Lib.hid n2;have d12:=D.out _ n2;clear n2))
  go_wp2
  go_ret
  exact ⟨rfl,N2.out⟩
end
end Go.Proofs.YtippfeplogkaiaaGreatDoor
namespace Go.Proofs.YtippfeplogkaiaaGreatDoor
open Go.RowKit ListMath PageMath GeoMath SegMath ClassMath HeapMath QueueMath ArenaMath CallMath
set_option linter.unusedVariables false
set_option maxRecDepth 100000
def askS' (P:SY):SY:={P with S:=⟨P.S.L,P.S.B,P.S.t,P.S.n+1⟩}
def lookF (P:SY) (F:FR):FR:={F with seen:=StackMath.topI P.S.L,tag:=P.S.t}
def lookS (P:SY) (F:FR):ByteArray:=if StackMath.topI P.S.L≠ -1 then b_take else if F.kd=1∨F.kd=3 then b_grow else b_done
section
variable {w0 w w' w1:World} {C:SgC w0} {K:HpC w0 C} {s p q g f m k cap:Nat} {hb:Nat→Nat} {own own':Nat→Prop} {O:Nat→Nat→Prop} {B:Nat→List SB} {R:List SB} {P P':SY} {L L':List Nat} {S S' T:Nat→Prop} {F F':FR} {st st':ByteArray} {a:Option Addr}
theorem OS.stack (z:OS C K s p q hb P L S w) {Z:StackMath.SS} (k:SK w' s 2 Z) (W:Wrt (fun _=>False) (SPl s 2) w w'):OS C K s p q hb {P with S:=Z} L S w'∧Still S w w':=by
  obtain ⟨⟨g,own,O,B,R,z1,z2⟩,h5,h6,h7⟩:=z
  have u:Upd (fun b=>b=s) w w':=W.upd.mono fun b hb=>hb.elim (fun x=>x.elim) fun ⟨i,hi⟩=>hi.1
  exact ⟨⟨⟨g,own,O,B,R,⟨z1.cs.turn k W,z1.env.upd u fun b e x=>z1.so.1 (e▸x),fun t ht=>K.upd (z1.hp t ht) u fun b e x=>z1.so.2 t ht (e▸x),z1.hB,z1.hR,z1.good,z1.ap,z1.two,z1.so,z1.nbR,z1.hul,z1.nbB,z1.lo⟩,z2⟩,h5.trans (u.below (fun b e=>z1.lo b (.inl e)) h5.size),fun b hb=>Nat.lt_of_lt_of_le (h6 b hb) u.size,h7⟩,u.mono fun b e=>z2 b (.inl e)⟩
theorem sy_look (z:OS C K s p q hb P L S w) (hg:StackMath.GoodS P.S) (hm:ManyB P.S):
    Calls Tryz.prog 179 #[.pointer (some ⟨s,2,none⟩)] w fun e w'=>e= .returned (.tuple #[.int .i64 (StackMath.topI P.S.L), .int .u64 (P.S.t:Int)])∧OS C K s p q hb (askS' P) L S w'∧Still S w w':=by
  refine (look_any w z.cs.sk hg hm).mono ?_
  rintro e w' ⟨rfl,k,W⟩
  exact ⟨rfl,z.stack k (W.mono (fun _ h=>h) fun b i h=> .inr h.spl)⟩
set_option maxHeartbeats 1000000 in
theorem look_now (n:NowF C K s p q hb S f m a k cap w P L F st w') (hg:StackMath.GoodS P.S) (hm:ManyB P.S):
    Calls Tryz.prog 118 #[.pointer (some ⟨f,0,none⟩)] w' fun e w1=>e= .returned (.string (lookS P F))∧NowF C K s p q hb S f m a k cap w (askS' P) L (lookF P F) st w1:=by
  have c0:=n.fr.c_s
  have c17:=n.fr.c_seen;have c19:=n.fr.c_tag
  have z17:=n.fr.fz 17;have z19:=n.fr.fz 19
  have LK:=Lib.hid (sy_look n.os hg hm)
  obtain ⟨tp,htp⟩: ∃x,StackMath.topI P.S.L=x:=⟨_,rfl⟩
  obtain ⟨tg,htg⟩: ∃x,P.S.t=x:=⟨_,rfl⟩
  rw [htp,htg] at LK
  have HP:=Lib.hid (show ∀w1,NowF C K s p q hb S f m a k cap w (askS' P) L F st w1→NowF C K s p q hb S f m a k cap w (askS' P) L (lookF P F) st ((w1.setCell ⟨f,17,none⟩ (.int .i64 tp)).setCell ⟨f,19,none⟩ (.int .u64 (tg:Int))) from fun w1 n=>by
    have n1:=n.put 17 (.int .i64 tp) {F with seen:=tp} st rfl rfl rfl
    have n2:=n1.put 19 (.int .u64 (tg:Int)) {F with seen:=tp,tag:=tg} st rfl rfl rfl
    have e:lookF P F={F with seen:=tp,tag:=tg}:=by unfold lookF;rw [htp,htg]
    rw [e];exact n2)
  have D:=Lib.hid (fun w1 (n:NowF C K s p q hb S f m a k cap w (askS' P) L F st w1)=>(And.intro (And.intro n.fr.c_seen n.fr.c_tag) (And.intro (n.fr.fz 17) (n.fr.fz 19))))
  have MA:=Lib.hid (fun w1 (n:NowF C K s p q hb S f m a k cap w (askS' P) L (lookF P F) st w1)=>mallocs_any n.fr)
  have hkd:(lookF P F).kd=F.kd:=rfl
  have N:=Lib.hid n
  by_cases h1:tp= -1
  · by_cases h2:F.kd=1∨F.kd=3
    · have e1:=Lib.hid (show lookS P F=b_grow by unfold lookS;rw [htp,if_neg (fun h=>h h1),if_pos h2])
      rw [hkd,decide_eq_true h2] at MA
      subst h1
      clear n hg hm htp htg hkd h2
      go_enter Tryz.func118,Tryz.ntmps118
      go_wp2_with fail
      refine LK.out.mono ?_;rintro e w2 ⟨rfl,z2,u2⟩
      have n2:=N.out.turn z2 u2
      have N2:=Lib.hid n2
      obtain ⟨⟨d17,d19⟩,d27,d29⟩:=D.out _ n2
      have N3:=Lib.hid (HP.out _ n2)
      clear z2 u2 n2 c17 c19 z17 z19 c0
      go_wp2_with fail
      refine (MA.out _ N3.out).mono ?_;rintro e w4 ⟨rfl,rfl⟩
      go_wp2
      go_ret
      rw [e1.out]
      exact ⟨rfl,N3.out⟩
    · have e1:=Lib.hid (show lookS P F=b_done by unfold lookS;rw [htp,if_neg (fun h=>h h1),if_neg h2])
      rw [hkd,decide_eq_false h2] at MA
      subst h1
      clear n hg hm htp htg hkd h2
      go_enter Tryz.func118,Tryz.ntmps118
      go_wp2_with fail
      refine LK.out.mono ?_;rintro e w2 ⟨rfl,z2,u2⟩
      have n2:=N.out.turn z2 u2
      have N2:=Lib.hid n2
      obtain ⟨⟨d17,d19⟩,d27,d29⟩:=D.out _ n2
      have N3:=Lib.hid (HP.out _ n2)
      clear z2 u2 n2 c17 c19 z17 z19 c0
      go_wp2_with fail
      refine (MA.out _ N3.out).mono ?_;rintro e w4 ⟨rfl,rfl⟩
      go_wp2
      go_ret
      rw [e1.out]
      exact ⟨rfl,N3.out⟩
  · have e1:=Lib.hid (show lookS P F=b_take by unfold lookS;rw [htp,if_pos h1])
    have t1:(tp != -1)=true:=by rw [bne_iff_ne];exact h1
    clear n hg hm htp htg hkd h1
    go_enter Tryz.func118,Tryz.ntmps118
    go_wp2_with fail
    refine LK.out.mono ?_;rintro e w2 ⟨rfl,z2,u2⟩
    have n2:=N.out.turn z2 u2
    have N2:=Lib.hid n2
    obtain ⟨⟨d17,d19⟩,d27,d29⟩:=D.out _ n2
    have N3:=Lib.hid (HP.out _ n2)
    clear z2 u2 n2 c17 c19 z17 z19 c0
    go_wp2
    go_ret
    rw [e1.out]
    exact ⟨rfl,N3.out⟩
def groP (P:SY) (F:FR):SY:=P.putH F.t (growH (P.H F.t) P.A (F.t+1)).1 (growH (P.H F.t) P.A (F.t+1)).2.2
set_option maxHeartbeats 2000000 in
theorem grow_no (n:NowF C K s p q hb S f m a k cap w P L F st w') (hr:P.A.r≤1000000000000) (he:(growH (P.H F.t) P.A (F.t+1)).2.1≠0):
    Calls Tryz.prog 122 #[.pointer (some ⟨f,0,none⟩)] w' fun e w1=>e= .returned (.string b_done)∧NowF C K s p q hb S f m a k cap w (groP P F) L {F with err:=(growH (P.H F.t) P.A (F.t+1)).2.1} st w1:=by
  have c1:=n.fr.c_h
  have GR:=Lib.hid (sy_grow n.os n.fr.t8 hr)
  obtain ⟨P1,hP1⟩: ∃P1,groP P F=P1:=⟨_,rfl⟩
  have hP1':P.putH F.t (growH (P.H F.t) P.A (F.t+1)).1 (growH (P.H F.t) P.A (F.t+1)).2.2=P1:=hP1
  rw [hP1'] at GR
  rw [hP1]
  obtain ⟨er,her⟩: ∃x,(growH (P.H F.t) P.A (F.t+1)).2.1=x:=⟨_,rfl⟩
  rw [her] at GR he⊢
  have t1:(er !=0)=true:=by rw [bne_iff_ne];exact he
  have FA:=Lib.hid (fun w1 (n:NowF C K s p q hb S f m a k cap w P1 L F st w1)=>fail_any n.fr er)
  obtain ⟨hh,hhh⟩: ∃x,hb F.t=x:=⟨_,rfl⟩
  rw [hhh] at c1 GR
  have N:=Lib.hid n
  clear n hr he hP1 hP1' her hhh
  go_enter Tryz.func122,Tryz.ntmps122
  go_wp2_with fail
  refine GR.out.mono ?_;rintro e w2 ⟨rfl,L1,z2,_,rfl,u2⟩
  have N2:=Lib.hid (N.out.turn z2 u2)
  clear z2 u2
  go_wp2_with fail
  refine (FA.out _ N2.out).mono ?_;rintro e w3 ⟨rfl,h3,u3⟩
  have N3:=Lib.hid (N2.out.fput h3 u3)
  clear h3 u3
  go_wp2
  go_ret
  exact ⟨rfl,N3.out⟩
theorem groP_H (P:SY) (F:FR):(groP P F).H F.t=(growH (P.H F.t) P.A (F.t+1)).1:=putH_same ..
set_option maxHeartbeats 4000000 in
theorem grow_yes (n:NowF C K s p q hb S f m a k cap w P L F st w') (hp:PlB F) (hbad: ¬badF F.pc F.ps) (hr:P.A.r≤1000000000000) (he:(growH (P.H F.t) P.A (F.t+1)).2.1=0) {X:SG} {j:Nat} (hroom:roomH ((groP P F).H F.t) (wdOf F.pc F.ps.toNat)=some (X,j))
    (hf: ∀op pp L1,w'.heap.size≤op→w'.heap.size≤pp→L1.length=L.length→Agree L L1 (frY F X j)→F.kd≠3→F.z=true→(∀Y∈(frP (groP P F) F X op pp j).all,∀o∈Y.L,GoodP L1 o.P)→FillOk (frP (groP P F) F X op pp j) L1 (fromS X.pl j)):
    Calls Tryz.prog 122 #[.pointer (some ⟨f,0,none⟩)] w' fun e w1=> ∃op pp L1,e= .returned (.string (madeS F 0))∧w'.heap.size≤op∧w'.heap.size≤pp∧L1.length=L.length∧Agree L L1 (frY F X j)∧(∀Y∈(frP (groP P F) F X op pp j).all,∀o∈Y.L,GoodP L1 o.P)∧NowF C K s p q hb S f m a k cap w (frP (groP P F) F X op pp j) (madeL (frP (groP P F) F X op pp j) L1 F (fromS X.pl j) 0) (madeF F (fromS X.pl j) 0) st w1:=by
  have c1:=n.fr.c_h
  have GR:=sy_grow n.os n.fr.t8 hr
  have N:=Lib.hid n
  obtain ⟨P1,hP1⟩: ∃P1,groP P F=P1:=⟨_,rfl⟩
  have hP1':P.putH F.t (growH (P.H F.t) P.A (F.t+1)).1 (growH (P.H F.t) P.A (F.t+1)).2.2=P1:=hP1
  rw [hP1',he] at GR
  rw [hP1] at hroom hf⊢
  have GR:=Lib.hid (GR.mono (R':=fun e w1=>e= .returned (.int .i64 0)∧NowF C K s p q hb S f m a k cap w P1 L F st w1∧w'.heap.size≤w1.heap.size) fun e w1 ⟨k1,L1,z1,_,k3,u⟩=>⟨k1,by subst k3;exact N.out.turn z1 u,u.size⟩)
  have FR:=Lib.hid (fun w1 (n:NowF C K s p q hb S f m a k cap w P1 L F st w1)=>fresh_yes n hp hbad hroom)
  have hx: ∀w1,NowF C K s p q hb S f m a k cap w P1 L F st w1→U64B (fromS X.pl j):=fun w1 n=>room_u64 n hbad hroom
  have MD:=Lib.hid (fun w1 op pp L1 (hx:U64B (fromS X.pl j)) (h1:w'.heap.size≤op) (h2:w'.heap.size≤pp) (h3:L1.length=L.length) (h4:Agree L L1 (frY F X j)) (n:NowF C K s p q hb S f m a k cap w (frP P1 F X op pp j) L1 F st w1)=>made_now n hx (er:=0) fun _ h5 h6=>hf op pp L1 h1 h2 h3 h4 h5 h6 fun Y hY o ho=>(n.os.pgs.1 Y hY).2 o ho)
  have D:=Lib.hid (fun w1 P1 L1 (F':CallMath.FR) (n:NowF C K s p q hb S f m a k cap w P1 L1 F' st w1) (h1:F'.t=F.t) (h2:F'.pc=F.pc) (h3:F'.ps=F.ps) (h4:F'.pg=F.pg) (h5:F'.pu=F.pu)=>show w1.cell? ⟨f,1,none⟩=some (.pointer (some ⟨hb F.t,0,none⟩))∧w1.cell? ⟨f,12,none⟩=some (.int .i64 F.pc)∧w1.cell? ⟨f,13,none⟩=some (.int .i64 F.ps)∧w1.cell? ⟨f,14,none⟩=some (.int .i64 F.pg)∧w1.cell? ⟨f,15,none⟩=some (.int .u64 (F.pu:Int)) by
    rw [←h1,←h2,←h3,←h4,←h5];exact ⟨n.fr.c_h,plan_cells n.fr⟩)
  have HX:=Lib.hid hx
  have MS:=Lib.hid (madeF_same F (fromS X.pl j) 0)
  obtain ⟨x,hxx⟩: ∃x,fromS X.pl j=x:=⟨_,rfl⟩
  obtain ⟨pc,hpc⟩: ∃x,F.pc=x:=⟨_,rfl⟩
  obtain ⟨ps,hps⟩: ∃x,F.ps=x:=⟨_,rfl⟩
  obtain ⟨pg,hpg⟩: ∃x,F.pg=x:=⟨_,rfl⟩
  obtain ⟨pu,hpu⟩: ∃x,F.pu=x:=⟨_,rfl⟩
  obtain ⟨hh,hhh⟩: ∃x,hb F.t=x:=⟨_,rfl⟩
  rw [hpc,hps,hpg,hpu,hhh] at FR D
  rw [hpc,hps,hpg,hpu] at MS
  rw [hxx] at FR MD HX MS⊢
  rw [hhh] at c1 GR
  have HQ:=Lib.hid (And.intro hpc (And.intro hps (And.intro hpg hpu)))
  clear n hp hbad hr hroom hf hx he hP1 hP1' hpc hps hpg hpu hhh hxx
  go_enter Tryz.func122,Tryz.ntmps122
  go_wp2_with fail
  refine GR.out.mono ?_;rintro e w2 ⟨rfl,n2,hw2⟩
  have N2:=Lib.hid n2;have HW2:=Lib.hid hw2
  obtain ⟨e1,e12,e13,e14,e15⟩:=D.out _ _ _ _ n2 rfl HQ.out.1 HQ.out.2.1 HQ.out.2.2.1 HQ.out.2.2.2
  clear n2 c1 hw2
  go_wp2
  go_region_held3 (fun w'=>w'.cell? ⟨f,1,none⟩=some (.pointer (some ⟨hh,0,none⟩))∧w'.cell? ⟨f,12,none⟩=some (.int .i64 pc)∧w'.cell? ⟨f,13,none⟩=some (.int .i64 ps)∧w'.cell? ⟨f,14,none⟩=some (.int .i64 pg)∧w'.cell? ⟨f,15,none⟩=some (.int .u64 (pu:Int))) (first|go_keep|exact ⟨e1,e12,e13,e14,e15⟩|exact d12|exact h12) (first
    |(go_at_call 178;(refine (FR.out _ N2.out.drew).mono ?_);rintro e w3 ⟨op,pp,L1,rfl,k1,k2,k3,k4,n3⟩;have KK:=Lib.hid (And.intro (Nat.le_trans HW2.out k1) (And.intro (Nat.le_trans HW2.out k2) (And.intro k3 k4)));have N3:=Lib.hid n3;have d12:=D.out _ _ _ _ n3 rfl HQ.out.1 HQ.out.2.1 HQ.out.2.2.1 HQ.out.2.2.2;clear n3 k1 k2 k3 k4)
    |(go_at_call 173;(with_reducible refine (MD.out _ op pp L1 (HX.out _ N2.out) KK.out.1 KK.out.2.1 KK.out.2.2.1 KK.out.2.2.2 N3.out).mono ?_);rintro e w4 ⟨rfl,n4⟩;have N4:=Lib.hid n4;have h12:=D.out _ _ _ _ n4 MS.out.2.1 MS.out.2.2.1 MS.out.2.2.2.1 MS.out.1 MS.out.2.2.2.2.1;clear n4))
  go_wp2
  go_ret
  exact ⟨op,pp,L1,rfl,KK.out.1,KK.out.2.1,KK.out.2.2.1,KK.out.2.2.2,fun Y hY o ho=>(N3.out.os.pgs.1 Y hY).2 o ho,N4.out⟩
end
end Go.Proofs.YtippfeplogkaiaaGreatDoor
namespace Go.Proofs.YtippfeplogkaiaaGreatDoor
open Go.RowKit ListMath PageMath GeoMath SegMath ClassMath HeapMath QueueMath ArenaMath CallMath
set_option linter.unusedVariables false
set_option maxRecDepth 100000
theorem for_all {w:World} (LY:Lay w) {n a:Nat} (hn:n≤18446744073709551615) (ha:a≤18446744073709551615):Calls Tryz.prog 41 #[.int .u64 (n:Int), .int .u64 (a:Int)] w fun e w'=>e= .returned (.tuple #[plV (forN n a).1, .int .i64 (forN n a).2])∧Below w.heap.size w w':=by
  by_cases h:isAl a=true∧n≤1048576
  · rw [forN_ok h.1 h.2];exact for_good LY n a h.1 h.2
  · rw [forN_bad h];exact for_bad n a hn ha h
def alO (F:FR):Nat:=max F.al 1
def begF (F:FR):FR:=if (forN F.n (alO F)).2≠0 then F else planF F (forN F.n (alO F)).1.c ((forN F.n (alO F)).1.sl:Int) ((forN F.n (alO F)).1.sg:Int) (forN F.n (alO F)).1.us
def begS (F:FR):ByteArray:=if (forN F.n (alO F)).2≠0 then b_refuse else askS (forN F.n (alO F)).1.c ((forN F.n (alO F)).1.sg:Int)
section
variable {w0 w w' w1:World} {C:SgC w0} {K:HpC w0 C} {s p q g f m k cap:Nat} {hb:Nat→Nat} {own own':Nat→Prop} {O:Nat→Nat→Prop} {B:Nat→List SB} {R:List SB} {P P':SY} {L L':List Nat} {S S' T:Nat→Prop} {F F':FR} {st st':ByteArray} {a:Option Addr}
theorem ask_now (n:NowF C K s p q hb S f m a k cap w P L F st w') (pc ps pg:Int) (pu:Nat):
    Calls Tryz.prog 132 #[.pointer (some ⟨f,0,none⟩), .agg #[.int .i64 pc, .int .i64 ps, .int .i64 pg, .int .u64 (pu:Int)]] w' fun e w1=>e= .returned (.string (askS pc pg))∧NowF C K s p q hb S f m a k cap w P L (planF F pc ps pg pu) st w1:=
  (ask_any n.fr pc ps pg pu).mono fun e w1 k=>⟨k.1,n.fput k.2.1 k.2.2⟩
set_option maxHeartbeats 4000000 in
theorem begin_malloc (LY:Lay w0) (n:NowF C K s p q hb S f m a k cap w P L F st w') (hn:U64B F.n) (ha:U64B F.al):
    Calls Tryz.prog 69 #[.pointer (some ⟨f,0,none⟩)] w' fun e w1=>e= .returned (.string (begS F))∧NowF C K s p q hb S f m a k cap w P L (begF F) st w1:=by
  have c5:=n.fr.c_n;have c6:=n.fr.c_al
  have FO:=fun w1 (n:NowF C K s p q hb S f m a k cap w P L F st w1)=>for_all (Lay.below LY n.os.below) hn (show alO F≤18446744073709551615 by unfold alO;omega)
  have hmax:(max (F.al:Int) 1)=((alO F:Nat):Int):=by unfold alO;omega
  have N:=Lib.hid n
  have hlt:=n.fr.blk.lt
  have D:=Lib.hid (fun w1 (h:Below w'.heap.size w' w1)=>(And.intro (N.out.grew h).fr.c_n (N.out.grew h).fr.c_al))
  obtain ⟨fr,hfr⟩: ∃x,forN F.n (alO F)=x:=⟨_,rfl⟩
  have eF:begF F=if fr.2≠0 then F else planF F fr.1.c (fr.1.sl:Int) (fr.1.sg:Int) fr.1.us:=by unfold begF;rw [hfr]
  have eS:begS F=if fr.2≠0 then b_refuse else askS fr.1.c (fr.1.sg:Int):=by unfold begS;rw [hfr]
  rw [hfr] at FO
  obtain ⟨⟨pc,sl,sg,us⟩,er⟩:=fr
  unfold plV at FO
  simp only at FO eF eS
  have FO:=Lib.hid FO
  obtain ⟨fn,hfn⟩: ∃x,F.n=x:=⟨_,rfl⟩
  obtain ⟨fa,hfa⟩: ∃x,F.al=x:=⟨_,rfl⟩
  obtain ⟨ao,hao⟩: ∃x,alO F=x:=⟨_,rfl⟩
  rw [hfn] at c5 FO D
  rw [hfa] at c6 hmax D
  rw [hao] at hmax FO
  have AK:=Lib.hid (fun w1 (n:NowF C K s p q hb S f m a k cap w P L F st w1)=>ask_now n pc (sl:Int) (sg:Int) us)
  have hne:w'.heap.size≠f:=by omega
  have hne2:f≠w'.heap.size:=by omega
  have B1:=Lib.hid ((Below.refl w'.heap.size w').drew)
  have B2:=Lib.hid (((Below.refl w'.heap.size w').alloc (Nat.le_refl _) (.cells #[.int .i64 0, .int .i64 0, .int .i64 0, .int .u64 0] 92)).drew)
  have NB:=Lib.hid (Blk.new w' 92 #[.int .i64 0, .int .i64 0, .int .i64 0, .int .u64 0]).drew
  by_cases he:er=0
  · have E1:=Lib.hid (show begS F=askS pc (sg:Int) by rw [eS,if_neg (fun h=>h he)])
    have E2:=Lib.hid (show begF F=planF F pc (sl:Int) (sg:Int) us by rw [eF,if_neg (fun h=>h he)])
    subst he
    clear n LY hn ha hfr eF eS hfn hfa hao hlt
    go_enter Tryz.func69,Tryz.ntmps69
    go_wp2
    go_region_held3 (fun w'=>w'.cell? ⟨f,5,none⟩=some (.int .u64 (fn:Int))∧w'.cell? ⟨f,6,none⟩=some (.int .u64 (fa:Int))) (first|go_keep|exact ⟨c5,c6⟩|exact d56) (first
      |(go_at_call 41;(with_reducible refine (FO.out _ (N.out.grew B1.out)).mono ?_);rintro e w2 ⟨rfl,hb2⟩;have B3:=Lib.hid (below_then B1.out B1.out.size hb2);have d56:=D.out _ B3.out;clear hb2)
      |(go_at_call 41;(with_reducible refine (FO.out _ (N.out.grew B2.out)).mono ?_);rintro e w2 ⟨rfl,hb2⟩;have B3:=Lib.hid (below_then B2.out B2.out.size hb2);have d56:=D.out _ B3.out;have nb:=NB.out.grew hb2;have a0:=nb.cell 0;have a1:=nb.cell 1;have a2:=nb.cell 2;have a3:=nb.cell 3;have g0:=nb.frozen 0;have g1:=nb.frozen 1;have g2:=nb.frozen 2;have g3:=nb.frozen 3;clear hb2 nb))
    · go_wp2_with fail
      refine (AK.out _ (N.out.grew (B3.out.alloc B3.out.size _))).mono ?_;rintro e w3 ⟨rfl,n3⟩
      have N3:=Lib.hid n3
      clear n3
      go_wp2
      go_ret
      rw [E1.out,E2.out]
      exact ⟨rfl,N3.out⟩
    · go_wp2_with fail
      refine (AK.out _ (N.out.grew ((((B3.out.setCell (p:=⟨w'.heap.size,0,none⟩) (Nat.le_refl _) _).setCell (p:=⟨w'.heap.size,1,none⟩) (Nat.le_refl _) _).setCell (p:=⟨w'.heap.size,2,none⟩) (Nat.le_refl _) _).setCell (p:=⟨w'.heap.size,3,none⟩) (Nat.le_refl _) _))).mono ?_;rintro e w3 ⟨rfl,n3⟩
      have N3:=Lib.hid n3
      clear n3
      go_wp2
      go_ret
      rw [E1.out,E2.out]
      exact ⟨rfl,N3.out⟩
    · go_wp2_with fail
      refine (AK.out _ (N.out.grew ((((B3.out.setCell (p:=⟨w'.heap.size,0,none⟩) (Nat.le_refl _) _).setCell (p:=⟨w'.heap.size,1,none⟩) (Nat.le_refl _) _).setCell (p:=⟨w'.heap.size,2,none⟩) (Nat.le_refl _) _).setCell (p:=⟨w'.heap.size,3,none⟩) (Nat.le_refl _) _))).mono ?_;rintro e w3 ⟨rfl,n3⟩
      have N3:=Lib.hid n3
      clear n3
      go_wp2
      go_ret
      rw [E1.out,E2.out]
      exact ⟨rfl,N3.out⟩
  · have E1:=Lib.hid (show begS F=b_refuse by rw [eS,if_pos he])
    have E2:=Lib.hid (show begF F=F by rw [eF,if_pos he])
    have t1:(er !=0)=true:=by rw [bne_iff_ne];exact he
    clear n LY hn ha hfr eF eS hfn hfa hao hlt he AK
    go_enter Tryz.func69,Tryz.ntmps69
    go_wp2
    go_region_held3 (fun w'=>w'.cell? ⟨f,5,none⟩=some (.int .u64 (fn:Int))∧w'.cell? ⟨f,6,none⟩=some (.int .u64 (fa:Int))) (first|go_keep|exact ⟨c5,c6⟩|exact d56) (first
      |(go_at_call 41;(with_reducible refine (FO.out _ (N.out.grew B1.out)).mono ?_);rintro e w2 ⟨rfl,hb2⟩;have B3:=Lib.hid (below_then B1.out B1.out.size hb2);have d56:=D.out _ B3.out;clear hb2)
      |(go_at_call 41;(with_reducible refine (FO.out _ (N.out.grew B2.out)).mono ?_);rintro e w2 ⟨rfl,hb2⟩;have B3:=Lib.hid (below_then B2.out B2.out.size hb2);have d56:=D.out _ B3.out;have nb:=NB.out.grew hb2;have a0:=nb.cell 0;have a1:=nb.cell 1;have a2:=nb.cell 2;have a3:=nb.cell 3;have g0:=nb.frozen 0;have g1:=nb.frozen 1;have g2:=nb.frozen 2;have g3:=nb.frozen 3;clear hb2 nb))
    · go_wp2
      go_ret
      rw [E1.out,E2.out]
      exact ⟨rfl,N.out.grew (B3.out.alloc B3.out.size _)⟩
    · go_wp2
      go_ret
      rw [E1.out,E2.out]
      exact ⟨rfl,N.out.grew ((((B3.out.setCell (p:=⟨w'.heap.size,0,none⟩) (Nat.le_refl _) _).setCell (p:=⟨w'.heap.size,1,none⟩) (Nat.le_refl _) _).setCell (p:=⟨w'.heap.size,2,none⟩) (Nat.le_refl _) _).setCell (p:=⟨w'.heap.size,3,none⟩) (Nat.le_refl _) _)⟩
    · go_wp2
      go_ret
      rw [E1.out,E2.out]
      exact ⟨rfl,N.out.grew ((((B3.out.setCell (p:=⟨w'.heap.size,0,none⟩) (Nat.le_refl _) _).setCell (p:=⟨w'.heap.size,1,none⟩) (Nat.le_refl _) _).setCell (p:=⟨w'.heap.size,2,none⟩) (Nat.le_refl _) _).setCell (p:=⟨w'.heap.size,3,none⟩) (Nat.le_refl _) _)⟩
def gatF (P:SY) (F:FR):FR:=pagesF F (pagesH (P.H F.t) [])
def begG (P:SY) (F:FR):ByteArray:=if gathS P (gatF P F)=b_done then b_rest else gathS P (gatF P F)
end
end Go.Proofs.YtippfeplogkaiaaGreatDoor
