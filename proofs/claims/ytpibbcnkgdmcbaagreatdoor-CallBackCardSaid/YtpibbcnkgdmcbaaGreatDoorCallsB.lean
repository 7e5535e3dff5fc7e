/- CallsB: texts of layers below, joined (CallA CallB CallC CallD). -/
import Derived.Test.YtpibbcnkgdmcbaaGreatDoorCallsA
import Derived.Test.YtpibbcnkgdmcbaaGreatDoorMems12
import Derived.Test.YtpibbcnkgdmcbaaGreatDoorHpsB
import Derived.BigQuiet
import Derived.Laws.StructEq
set_option linter.unusedVariables false
set_option maxRecDepth 100000
set_option maxHeartbeats 4000000
namespace Go.Proofs.YtpibbcnkgdmcbaaGreatDoor
open Go.RowKit aC aF aG aI au aD aB aA bf
theorem iw (w:World) {t:Nat} (ht:t<8):Calls Tryz.prog 19 #[.int .i64 (t:Int)] w fun e w'=>e= .returned (.bool true)∧w'=w:=by
 have t1:decide ((0:Int)≤(t:Int))=true:=decide_eq_true (by omega);have t2:decide ((t:Int)<8)=true:=decide_eq_true (by omega);go_enter Tryz.func19,Tryz.ntmps19
 go_wp2;go_ret;exact ⟨rfl,rfl⟩
theorem kE (w:World) {t:Nat} (ht:t<8):Calls Tryz.prog 18 #[.int .i64 (t:Int)] w fun e w'=>e= .returned (.int .u64 ((t+1:Nat):Int))∧w'=w:=by
 have hw:IntKind.u64.wrap (t:Int)=(t:Int):=IntWalk.u64_in _ ⟨by omega,by omega⟩;have hw2:IntKind.u64.wrap ((t:Int)+1)=((t+1:Nat):Int):=by rw [IntWalk.u64_in _ ⟨by omega,by omega⟩];omega
 go_enter Tryz.func18,Tryz.ntmps18
 go_wp2;go_ret;exact ⟨rfl,rfl⟩
theorem Nf (w:World) {t:Int} {c0 c1 c2 c3 c4 c5:Value}:Calls Tryz.prog 6 #[.pointer none, .int .i64 t, .agg #[c0,c1,c2,c3,c4,c5]] w fun e w'=>e= .returned (.tuple #[.pointer none, .int .i64 1])∧Below w.heap.size w w':=by
 go_enter Tryz.func6,Tryz.ntmps6
 go_wp2
 go_ret2
 exact ⟨rfl,(Below.refl _ w).alloc (Nat.le_refl _) _⟩
section
variable {w0 w w':World} {C:fH w0} {K:kW w0 C} {s p q f m:Nat} {hb:Nat→Nat} {P:SY} {L:List Nat} {S:Nat→Prop}
theorem OS.cs (z:OS C K s p q hb P L S w):tL w s p q hb P.S P.hu P.nb:=by obtain ⟨⟨g,own,O,B,R,z1,_⟩,_⟩:=z;exact z1.cs
theorem Bd (z:OS C K s p q hb P L S w):Calls Tryz.prog 10 #[.pointer (some ⟨s,0,none⟩)] w fun e w'=>e= .returned (.pointer (some ⟨q,0,none⟩))∧w'=w:=by
 have c1:=z.cs.c1;clear z;go_enter Tryz.func10,Tryz.ntmps10
 go_wp2;go_ret;exact ⟨rfl,rfl⟩
end
end Go.Proofs.YtpibbcnkgdmcbaaGreatDoor
namespace Go.Proofs.YtpibbcnkgdmcbaaGreatDoor
open Go.RowKit aC aF aG aI au aD aB aA bf
section
variable {w0 w w':World} {C:fH w0} {K:kW w0 C} {s p q g:Nat} {hb:Nat→Nat} {own:Nat→Prop} {O:Nat→Nat→Prop} {B:Nat→List SB} {R:List SB} {P:SY} {L:List Nat}
theorem TJ {w:World} {a:Option Addr} {n c:Nat} {l:List (Option Addr)} (h:Seq Elem.ptrs w (.slice a n c) l) {t:Nat} {x:Option Addr} (hx:l[t]? =some x): ∃b off,a=some ⟨b,off,none⟩∧w.cell? ⟨b,off+t,none⟩=some (.pointer x):=by
 obtain ⟨b,off,ea,hc⟩:=h.elem hx;have h0:=hc 0 (.pointer x) rfl;exact ⟨b,off,ea,by simpa [Elem.ptrs] using h0⟩
theorem Qg (P:Program) (T:TypeId) (hb:Nat→Nat) (w:World): ∀k:Nat,k<8→(Instr.index 63 (.agg #[.pointer (some ⟨hb 0,0,none⟩), .pointer (some ⟨hb 1,0,none⟩), .pointer (some ⟨hb 2,0,none⟩), .pointer (some ⟨hb 3,0,none⟩), .pointer (some ⟨hb 4,0,none⟩), .pointer (some ⟨hb 5,0,none⟩), .pointer (some ⟨hb 6,0,none⟩), .pointer (some ⟨hb 7,0,none⟩)]) (.int .i64 (k:Int))).run Tryz.prog w= .ok (.pointer (some ⟨hb k,0,none⟩)) w:=fun k hk=>by
 match k,hk with
 |0,_=>rfl
 |1,_=>rfl
 |2,_=>rfl
 |3,_=>rfl
 |4,_=>rfl
 |5,_=>rfl
 |6,_=>rfl
 |7,_=>rfl
def Rx (B:Nat→List SB) (pl:Int) (k:Nat):Prop:= ∀t,t<k→ ∀b∈B t,(b.X.pl:Int)≠pl
def ab3 (w:World) (B:Nat→List SB) (pl:Int) (i:Value) (wr:World):Prop:= ∃k:Nat,i= .int .i64 (k:Int)∧k≤8∧Rx B pl k∧Below w.heap.size w wr
def ab2 (w:World) (l:List SB) (pl:Int) (i:Value) (wr:World):Prop:= ∃k:Nat,i= .int .i64 (k:Int)∧k≤l.length∧(∀b∈l.take k,(b.X.pl:Int)≠pl)∧Below w.heap.size w wr
def CW (B:Nat→List SB) (nb:Nat→Option Nat) (pl:Nat) (w:World) (e:Ending) (w':World):Prop:=
 (∀t,t<8→ ∀b∈B t,b.X.pl=pl→e= .returned (.pointer (some ⟨b.sp,0,none⟩)))∧(Rx B (pl:Int) 8→e= .returned (DV (nb pl)))∧Below w.heap.size w w'
theorem Tk {l:List SB} {k:Nat} {b:SB} {pl:Int} (h: ∀b∈l.take k,(b.X.pl:Int)≠pl) (hb:l[k]? =some b) (hn:(b.X.pl:Int)≠pl): ∀b∈l.take (k+1),(b.X.pl:Int)≠pl:=fun x hx=>by
 rw [List.take_add_one,hb] at hx;rcases List.mem_append.1 hx with hx|hx
 · exact h x hx
 · rw [List.mem_singleton.1 hx];exact hn
theorem WE (z:qy C K s p q hb g own O B R P L w) (hw:Below w0.heap.size w0 w) {pl:Nat} (hpl:pl<64):
 Calls Tryz.prog 66 #[.pointer (some ⟨s,0,none⟩), .int .i64 (pl:Int)] w (CW B P.nb pl w):=by
 have h0:=z.cs.heap (t:=0) (by decide);have h1:=z.cs.heap (t:=1) (by decide);have h2:=z.cs.heap (t:=2) (by decide);have h3:=z.cs.heap (t:=3) (by decide);have h4:=z.cs.heap (t:=4) (by decide);have h5:=z.cs.heap (t:=5) (by decide);have h6:=z.cs.heap (t:=6) (by decide);have h7:=z.cs.heap (t:=7) (by decide);have Z:=Lib.hid z;have HW:=Lib.hid hw;have IX:=Lib.hid (Qg Tryz.prog 0 hb);have N8:=Lib.hid (show ∀wr,Below w.heap.size w wr→wr.cell? ⟨s,141+pl,none⟩=some (DV (P.nb pl)) from fun wr h=>(z.cs.upd (ak h) fun x=>x).nobody hpl);have q1:(0:Int)≤(pl:Int):=by omega
 have q2:(pl:Int)<64:=by omega
 obtain ⟨nv,hnv⟩: ∃nv,P.nb pl=nv:=⟨_,rfl⟩;have HNV:=Lib.hid hnv;rw [hnv] at N8;clear z hw hnv;go_enter Tryz.func66,Tryz.ntmps66
 go_wp2;clear h0 h1 h2 h3 h4 h5 h6 h7;go_loopw [13] (fun i wr=>ab3 w B (pl:Int) i wr) (fun i _=>8-(intOf i).toNat)
 case atStart=>exact ⟨0,rfl,by omega,fun t ht=>absurd ht (Nat.not_lt_zero _),Below.refl _ _⟩
 case round=>
  obtain ⟨k,rfl,hk,hno,hbw⟩:=hrel;have NO:=Lib.hid hno;have BW:=Lib.hid hbw;by_cases VK:k<8
  · have t5:decide ((k:Int)<8)=true:=decide_eq_true (by omega)
    have ix:=fun w=>IX.out w k VK;have hz:=(Z.out.upd (ak hbw) fun _ x=>x.elim).hz VK;have SG:=Lib.hid (K.vT wr (ah HW.out HW.out.size hbw) hz);have HZ:=Lib.hid hz;obtain ⟨hk9,hhk⟩: ∃x,hb k=x:=⟨_,rfl⟩;rw [hhk] at ix SG;clear hno hbw hk hz hhk;go_wp2_with fail
    refine SG.out.mono ?_;rintro e w1 ⟨a,n,cap,rfl,hseq,hc1,hc2,hin,hb1⟩;have B1:=Lib.hid (ah BW.out BW.out.size hb1);have SQ:=Lib.hid hseq;have hn:n=(B k).length:=by rw [hseq.len,List.length_map]
    have HN:=Lib.hid hn;clear hseq hin hb1 hn;go_wp2;go_loopw [19] (fun i wr=>ab2 w1 (B k) (pl:Int) i wr) (fun i _=>n-(intOf i).toNat)
    case atStart=>exact ⟨0,rfl,Nat.zero_le _,(by intro b hb;cases hb),Below.refl _ _⟩
    case round=>
     obtain ⟨j,rfl,hj,Uw,hb2⟩:=hrel;rw [←HN.out] at hj;have NO2:=Lib.hid Uw;have B2:=Lib.hid hb2;by_cases hjn:j<n
     · obtain ⟨b,hbj⟩: ∃b,(B k)[j]? =some b:=⟨_,List.getElem?_eq_getElem (by rw [←HN.out];exact hjn)⟩
       obtain ⟨bk,off,rfl,d0⟩:=TJ (SQ.out.below (Nat.le_refl _) hb2) (t:=j) (x:=some ⟨b.sp,0,none⟩) (by rw [List.getElem?_map,hbj];rfl);have t2:decide ((j:Int)<(n:Int))=true:=decide_eq_true (by omega);have t2':decide (j<n)=true:=decide_eq_true hjn;have q3:(0:Int)≤(j:Int):=by omega
       have q4:(j:Int)<(n:Int):=by omega
       have jL:b∈B k:=List.mem_of_getElem? hbj;have hba:b∈cu B R:=iG.2 (.inl ⟨k,VK,jL⟩);have Ym:=ah B1.out B1.out.size hb2;have PL:=Lib.hid (C.place _ (ah HW.out HW.out.size Ym) ((Z.out.env.dJ.sg b hba).grew Ym));have HBJ:=Lib.hid hbj;obtain ⟨sp,hsp⟩: ∃sp,b.sp=sp:=⟨_,rfl⟩;rw [hsp] at d0 PL;by_cases hp:b.X.pl=pl
       · have t6:((b.X.pl:Int)==(pl:Int))=true:=by rw [beq_iff_eq];omega
         have t6':(b.X.pl==pl)=true:=by rw [beq_iff_eq];omega
         have FIN:Hid (∀t,t<8→ ∀x∈B t,x.X.pl=pl→x.sp=sp):=Lib.hid fun t ht x hx e=>by
          rw [←hsp,mR Z.out.env.dJ.nd (iG.2 (.inl ⟨t,ht,hx⟩)) hba (e.trans hp.symm)]
         have FI2:Hid (¬Rx B (pl:Int) 8):=Lib.hid fun h=>h k VK b jL (by omega);obtain ⟨bp,hbp⟩: ∃bp,b.X.pl=bp:=⟨_,rfl⟩;rw [hbp] at PL t6 t6';clear Uw hb2 hbj jL hba Ym hsp hp hbp ix;go_wp2_with fail
         refine PL.out.mono ?_;rintro e w2 ⟨rfl,hb3⟩;have B3:=Lib.hid (ah (ah B1.out B1.out.size B2.out) (Nat.le_trans B1.out.size B2.out.size) hb3);clear hb3;go_wp2;go_ret;exact ⟨fun t ht x hx e=>by show Ending.returned (.pointer (some ⟨sp,0,none⟩))= .returned (.pointer (some ⟨x.sp,0,none⟩));rw [FIN.out t ht x hx e],fun h=>absurd h FI2.out,B3.out⟩
       · have t6:((b.X.pl:Int)==(pl:Int))=false:=by rw [beq_eq_false_iff_ne];omega
         have t6':(b.X.pl==pl)=false:=by rw [beq_eq_false_iff_ne];omega
         have NX:=Lib.hid (Tk NO2.out HBJ.out (by omega));obtain ⟨bp,hbp⟩: ∃bp,b.X.pl=bp:=⟨_,rfl⟩;rw [hbp] at PL t6 t6';clear Uw hb2 hbj jL hba Ym hsp hp hbp ix;go_wp2_with fail
         refine PL.out.mono ?_;rintro e w2 ⟨rfl,hb3⟩;have B3:=Lib.hid (ah B2.out B2.out.size hb3);clear hb3;go_wp2;go_roundw
         case rel=>exact ⟨j+1,by go_num,by rw [←HN.out];omega,NX.out,B3.out⟩
         case measure=>simp [intOf];omega
     · obtain rfl:j=n:=by omega
       have t2:decide ((j:Int)<(j:Int))=false:=decide_eq_false (by omega);have NX:Hid (Rx B (pl:Int) (k+1)):=Lib.hid fun t ht b hb=>by
        by_cases e:t=k
        · subst e
          exact NO2.out b (by rw [HN.out,List.take_length];exact hb)
        · exact NO.out t (by omega) b hb
       have BX:=Lib.hid (ah B1.out B1.out.size B2.out);clear Uw hb2 ix;go_wp2;go_roundw
       case rel=>exact ⟨k+1,by go_num,by omega,NX.out,BX.out⟩
       case measure=>simp [intOf];omega
  · obtain rfl:k=8:=by omega
    have t5:decide (((8:Nat):Int)<8)=false:=by decide
    have cn:=N8.out wr hbw;have FIN:Hid (∀t,t<8→ ∀x∈B t,x.X.pl=pl→False):=Lib.hid fun t ht x hx e=>NO.out t ht x hx (by omega);clear hno hbw;go_wp2;go_ret;exact ⟨fun t ht x hx e=>(FIN.out t ht x hx e).elim,fun _=>by show Ending.returned (DV nv)= .returned (DV (P.nb pl));rw [HNV.out],BW.out⟩
end
end Go.Proofs.YtpibbcnkgdmcbaaGreatDoor
namespace Go.Proofs.YtpibbcnkgdmcbaaGreatDoor
open Go.RowKit aC aF aG aI au aD aB aA bf
def fI (hu:Nat→Nat) (a:Nat):Option Nat:=if a<1048576∧a%16384=0∧hu (a/16384)≠0 then some (a/16384) else none
def yG (o:Option Nat):Value:=match o with|none=> .tuple #[.int .i64 0, .bool false]|some k=> .tuple #[.int .i64 (k:Int), .bool true]
section
variable {w0 w w':World} {C:fH w0} {K:kW w0 C} {s p q g:Nat} {hb:Nat→Nat} {own:Nat→Prop} {O:Nat→Nat→Prop} {B:Nat→List SB} {R:List SB} {P:SY} {L:List Nat} {S:Nat→Prop}
theorem JZ {SS:bP.SS} {hu:Nat→Nat} {nb:Nat→Option Nat} (z:tL w s p q hb SS hu nb) {a:Nat} (ha:bM a):
 Calls Tryz.prog 30 #[.pointer (some ⟨s,0,none⟩), .int .u64 (a:Int)] w fun e w'=>e= .returned (yG (fI hu a))∧Below w.heap.size w w':=by
 have AT:=Cx w a ha;by_cases h:a<1048576
 · rw [uT h,uU h] at AT
   obtain ⟨x,hx⟩: ∃x,a/16384=x:=⟨_,rfl⟩;obtain ⟨l,hl⟩: ∃l,a%16384/1024=l:=⟨_,rfl⟩;obtain ⟨o,ho⟩: ∃o,a%1024=o:=⟨_,rfl⟩;rw [hx,hl,ho] at AT;unfold zL at AT;have AT:=Lib.hid AT;have fM:x<64:=by omega
   have q1:(0:Int)≤(x:Int):=by omega
   have q2:(x:Int)<64:=by omega
   obtain ⟨n,hn⟩: ∃n,hu x=n:=⟨_,rfl⟩;have CH:=Lib.hid (show ∀wr,Below w.heap.size w wr→wr.cell? ⟨s,77+x,none⟩=some (.int .i64 (n:Int)) from fun wr h=>by rw [←hn];exact (z.upd (ak h) fun x=>x).huge fM);have Sb: ∀w1,Below w.heap.size w w1→ ∀ob:Obj,Below w.heap.size w (w1.alloc ob):=fun w1 h ob=>h.alloc (by have:=h.size;omega) ob;by_cases hal:l=0∧o=0
   · obtain ⟨rfl,rfl⟩:=hal
     by_cases h0:n=0
     · have e:fI hu a=none:=if_neg fun h=>h.2.2 (by rw [hx,hn];exact h0)
       rw [e];subst h0;clear z h hx hl ho hn e;go_enter Tryz.func30,Tryz.ntmps30
       go_wp2_with fail
       refine AT.out.mono ?_;rintro e w1 ⟨rfl,hb1⟩;have c9:=CH.out _ (Sb w1 hb1 (.cells #[.int .i64 (x:Int), .int .i64 0, .int .u64 0] 129));have B9:=Lib.hid (Sb w1 hb1 (.cells #[.int .i64 (x:Int), .int .i64 0, .int .u64 0] 129));clear hb1;go_wp2;go_quiet (fail)
       go_wp2
       go_ret2
       exact ⟨rfl,below_drewN B9.out _⟩
     · have e:fI hu a=some x:=by unfold fI;rw [if_pos ⟨h,by omega,by rw [hx,hn];exact h0⟩,hx]
       have t0:((n:Int)==0)=false:=by rw [beq_eq_false_iff_ne];omega
       have t0':(n==0)=false:=by rw [beq_eq_false_iff_ne];omega
       rw [e];clear z h hx hl ho hn e h0;go_enter Tryz.func30,Tryz.ntmps30
       go_wp2_with fail
       refine AT.out.mono ?_;rintro e w1 ⟨rfl,hb1⟩;have c9:=CH.out _ (Sb w1 hb1 (.cells #[.int .i64 (x:Int), .int .i64 0, .int .u64 0] 129));have B9:=Lib.hid (Sb w1 hb1 (.cells #[.int .i64 (x:Int), .int .i64 0, .int .u64 0] 129));clear hb1;go_wp2;go_quiet (fail)
       go_wp2
       go_ret2
       exact ⟨rfl,below_drewN B9.out _⟩
   · have e:fI hu a=none:=if_neg fun h=>hal (by omega)
     rw [e];clear z h hx ho e;by_cases hl0:l=0
     · subst hl0
       have t0:((o:Int)==0)=false:=by rw [beq_eq_false_iff_ne];omega
       have t0':(o==0)=false:=by rw [beq_eq_false_iff_ne];omega
       clear hal hl hn;go_enter Tryz.func30,Tryz.ntmps30
       go_wp2_with fail
       refine AT.out.mono ?_;rintro e w1 ⟨rfl,hb1⟩;have B9:=Lib.hid (Sb w1 hb1 (.cells #[.int .i64 (x:Int), .int .i64 0, .int .u64 (o:Int)] 129));clear hb1;go_wp2;go_quiet (fail)
       go_wp2
       go_ret2
       exact ⟨rfl,below_drewN B9.out _⟩
     · have t0:((l:Int)==0)=false:=by rw [beq_eq_false_iff_ne];omega
       have t0':(l==0)=false:=by rw [beq_eq_false_iff_ne];omega
       clear hal hl hn hl0;go_enter Tryz.func30,Tryz.ntmps30
       go_wp2_with fail
       refine AT.out.mono ?_;rintro e w1 ⟨rfl,hb1⟩;have B9:=Lib.hid (Sb w1 hb1 (.cells #[.int .i64 (x:Int), .int .i64 (l:Int), .int .u64 (o:Int)] 129));clear hb1;go_wp2;go_quiet (fail)
       go_wp2
       go_ret2
       exact ⟨rfl,below_drewN B9.out _⟩
 · rw [zk h,zl h] at AT
   unfold zL at AT;have e:fI hu a=none:=if_neg fun h2=>h h2.1;have AT:=Lib.hid AT;rw [e];clear z h e;go_enter Tryz.func30,Tryz.ntmps30
   go_wp2_with fail
   refine AT.out.mono ?_;rintro e w1 ⟨rfl,hb1⟩;have B9:=Lib.hid (hb1.alloc (by have:=hb1.size;omega) (.cells #[.int .i64 0, .int .i64 0, .int .u64 0] 129));clear hb1;go_wp2;go_quiet (fail)
   go_wp2
   go_ret2
   exact ⟨rfl,below_drewN B9.out _⟩
theorem Dx (w:World) (a:Nat):Calls Tryz.prog 67 #[.pointer none, .int .u64 (a:Int)] w fun e w'=>e= .returned (.tuple #[.pointer none, .int .i64 1])∧w'=w:=by
 go_enter Tryz.func67,Tryz.ntmps67
 go_wp2
 go_ret2
 exact ⟨rfl,rfl⟩
def RA (l:List SB) (a:Nat) (w:World) (e:Ending) (w':World):Prop:=
 (∀b∈l,∀o,bJ b.X a=some o→e= .returned (.tuple #[.pointer (some ⟨b.sp,0,none⟩), .pointer (some ⟨o.op,0,none⟩)]))∧((∀b∈l,bJ b.X a=none)→e= .returned (.tuple #[.pointer none, .pointer none]))∧Below w.heap.size w w'
theorem uf (z:qy C K s p q hb g own O B R P L w) {pl:Nat} (hpl:pl<64):(∃b∈cu B R,b.X.pl=pl∧ ∀e w',CW B P.nb pl w e w'→e= .returned (.pointer (some ⟨b.sp,0,none⟩))∧Below w.heap.size w w')∨
 ((∀b∈cu B R,b.X.pl≠pl)∧ ∀e w',CW B P.nb pl w e w'→e= .returned (.pointer none)∧Below w.heap.size w w'):=by
 by_cases h1: ∃t,t<8∧ ∃b∈B t,b.X.pl=pl
 · obtain ⟨t,ht,b,hb1,e1⟩:=h1
   exact .inl ⟨b,iG.2 (.inl ⟨t,ht,hb1⟩),e1,fun e w' h=>⟨h.1 t ht b hb1 e1,h.2.2⟩⟩
 · have hno:Rx B (pl:Int) 8:=fun t ht b hb1 e=>h1 ⟨t,ht,b,hb1,by omega⟩
   cases hn:P.nb pl with
   |none=>
    refine .inr ⟨fun b hb1 e=> ?_,fun e w' h=>⟨by have:=h.2.1 hno;rw [hn] at this;exact this,h.2.2⟩⟩;rcases iG.1 hb1 with ⟨t,ht,h2⟩|h2
    · exact h1 ⟨t,ht,b,h2,e⟩
    · have:=z.Vz b h2;rw [e,hn] at this;cases this
   |some x=>
    obtain ⟨b,hb1,e1,e2⟩:=z.VB pl hpl x hn;exact .inl ⟨b,iG.2 (.inr hb1),e1,fun e w' h=>⟨by have:=h.2.1 hno;rw [hn,←e2] at this;exact this,h.2.2⟩⟩
theorem kI {X:SG} {a:Nat} {o:bY} (h:bJ X a=some o):X.pl=a/16384:=by have:=gW h;omega
theorem yQ (z:qy C K s p q hb g own O B R P L w) (hw:Below w0.heap.size w0 w) {a:Nat} (ha:bM a):
 Calls Tryz.prog 31 #[.pointer (some ⟨s,0,none⟩), .int .u64 (a:Int)] w (RA (cu B R) a w):=by
 have AT:=Cx w a ha;by_cases h:a<1048576
 · rw [uT h,uU h] at AT
   obtain ⟨x,hx⟩: ∃x,a/16384=x:=⟨_,rfl⟩;obtain ⟨l,hl⟩: ∃l,a%16384/1024=l:=⟨_,rfl⟩;obtain ⟨o,ho⟩: ∃o,a%1024=o:=⟨_,rfl⟩;have fM:x<64:=by omega
   rw [hx,hl,ho] at AT;unfold zL at AT;have AT:=Lib.hid AT;have FP: ∀b:SB,b.X.pl≠x→bJ b.X a=none:=fun b hne=>by
    cases hf:bJ b.X a with
    |none=>rfl
    |some o=>exact absurd ((kI hf).trans hx) hne
   have Sb: ∀w1,Below w.heap.size w w1→ ∀ob:Obj,Below w.heap.size w (w1.alloc ob):=fun w1 h ob=>h.alloc (by have:=h.size;omega) ob;have Z6:=fun w1 (h:Below w.heap.size w w1)=>WE (z.upd (ak h) fun _ x=>x.elim) (ah hw hw.size h) fM;have z2:=fun w1 (h:Below w.heap.size w w1)=>(z.upd (ak h) fun _ x=>x.elim);rcases uf z fM with ⟨b,jL,hbp,hbq⟩|⟨hbn,hbq⟩
   · have Ru:=Lib.hid (fun w1 (h:Below w.heap.size w w1)=>(Z6 w1 h).mono fun e w' k=>(show e= .returned (.pointer (some ⟨b.sp,0,none⟩))∧Below w1.heap.size w1 w' by
      rcases uf (z2 w1 h) fM with ⟨b2,hb2,e2,q2⟩|⟨hn2,_⟩
      · have:=mR z.env.dJ.nd hb2 jL (e2.trans hbp.symm)
        subst this;exact q2 e w' k
      · exact absurd hbp (hn2 b jL)))
     have SF:=Lib.hid (fun w1 (h:Below w.heap.size w w1)=>C.find w1 (ah hw hw.size h) ((z.env.dJ.sg b jL).grew h) ha);have FIN:Hid (∀c∈cu B R,∀o,bJ c.X a=some o→c=b):=Lib.hid fun c hc o ho=>mR z.env.dJ.nd hc jL ((kI ho).trans (hx.trans hbp.symm));have HBM:=Lib.hid jL;obtain ⟨sp,hsp⟩: ∃sp,b.sp=sp:=⟨_,rfl⟩;rw [hsp] at Ru SF;have HSP:=Lib.hid hsp;cases hf:bJ b.X a with
     |none=>
      obtain ⟨er,her⟩: ∃er,mq b.X a=er:=⟨_,rfl⟩;have hne:er=3∨er=5:=by rw [←her];exact yU hf
      rw [hf,her] at SF;unfold GI at SF;have t3:(er !=0)=true:=by rw [bne_iff_ne];omega
      have HF:=Lib.hid hf;clear z h hx hl ho hw FP Z6 z2 hbq hbp jL hsp hf her hne;go_enter Tryz.func31,Tryz.ntmps31
      go_wp2_with fail
      refine AT.out.mono ?_;rintro e w1 ⟨rfl,hb1⟩;have B1:=Lib.hid (Sb w1 hb1 (.cells #[.int .i64 (x:Int), .int .i64 (l:Int), .int .u64 (o:Int)] 129));clear hb1;go_wp2_with fail
      refine (Ru.out _ B1.out).mono ?_;rintro e w2 ⟨rfl,hb2⟩;have B2:=Lib.hid (ah B1.out B1.out.size hb2);clear hb2;go_wp2_with fail
      refine (SF.out _ B2.out).mono ?_;rintro e w3 ⟨rfl,hb3⟩;have B3:=Lib.hid (ah B2.out B2.out.size hb3);clear hb3;go_wp2
      go_ret2
      exact ⟨fun c hc o ho=>(by rw [FIN.out c hc o ho,HF.out] at ho;cases ho),fun _=>rfl,B3.out⟩
     |some ow=>
      rw [hf,yT hf] at SF;obtain ⟨op,hop⟩: ∃op,ow.op=op:=⟨_,rfl⟩;have SF':Hid (∀w1,Below w.heap.size w w1→Calls Tryz.prog 67 #[.pointer (some ⟨sp,0,none⟩), .int .u64 (a:Int)] w1 fun e w'=>e= .returned (.tuple #[.pointer (some ⟨op,0,none⟩), .int .i64 0])∧Below w1.heap.size w1 w'):=by rw [←hop];exact SF
      have HF:=Lib.hid hf;have HOP:=Lib.hid hop;clear z h hx hl ho hw FP Z6 z2 hbq hbp jL hsp hf hop SF;go_enter Tryz.func31,Tryz.ntmps31
      go_wp2_with fail
      refine AT.out.mono ?_;rintro e w1 ⟨rfl,hb1⟩;have B1:=Lib.hid (Sb w1 hb1 (.cells #[.int .i64 (x:Int), .int .i64 (l:Int), .int .u64 (o:Int)] 129));clear hb1;go_wp2_with fail
      refine (Ru.out _ B1.out).mono ?_;rintro e w2 ⟨rfl,hb2⟩;have B2:=Lib.hid (ah B1.out B1.out.size hb2);clear hb2;go_wp2_with fail
      refine (SF'.out _ B2.out).mono ?_;rintro e w3 ⟨rfl,hb3⟩;have B3:=Lib.hid (ah B2.out B2.out.size hb3);clear hb3;go_wp2
      go_ret2
      refine ⟨fun c hc o ho=> ?_,fun h=> ?_,B3.out⟩
      · have e1:=FIN.out c hc o ho
        rw [e1,HF.out] at ho;injection ho with ho
        show Ending.returned (.tuple #[.pointer (some ⟨sp,0,none⟩), .pointer (some ⟨op,0,none⟩)])=_;rw [e1,HSP.out,←ho,HOP.out]
      · have:=h b HBM.out
        rw [HF.out] at this;cases this
   · have Ru:=Lib.hid (fun w1 (h:Below w.heap.size w w1)=>(Z6 w1 h).mono fun e w' k=>(show e= .returned (.pointer none)∧Below w1.heap.size w1 w' by
      rcases uf (z2 w1 h) fM with ⟨b2,hb2,e2,q2⟩|⟨hn2,q2⟩
      · exact absurd e2 (hbn b2 hb2)
      · exact q2 e w' k))
     have FIN:Hid (∀c∈cu B R,bJ c.X a=none):=Lib.hid fun c hc=>FP c (hbn c hc);have FN:=Lib.hid (fun w=>Dx w a);clear z h hx hl ho hw FP Z6 z2 hbq hbn;go_enter Tryz.func31,Tryz.ntmps31
     go_wp2_with fail
     refine AT.out.mono ?_;rintro e w1 ⟨rfl,hb1⟩;have B1:=Lib.hid (Sb w1 hb1 (.cells #[.int .i64 (x:Int), .int .i64 (l:Int), .int .u64 (o:Int)] 129));clear hb1;go_wp2_with fail
     refine (Ru.out _ B1.out).mono ?_;rintro e w2 ⟨rfl,hb2⟩;have B2:=Lib.hid (ah B1.out B1.out.size hb2);clear hb2;go_wp2_with fail
     refine (FN.out _).mono ?_;rintro e w3 ⟨rfl,rfl⟩;go_wp2
     go_ret2
     exact ⟨fun c hc o ho=>(by rw [FIN.out c hc] at ho;cases ho),fun _=>rfl,B2.out⟩
 · rw [zk h,zl h] at AT
   unfold zL at AT;have AT:=Lib.hid AT;have FIN:Hid (∀c∈cu B R,bJ c.X a=none):=Lib.hid fun c hc=>by
    cases hf:bJ c.X a with
    |none=>rfl
    |some o=>have:=kI hf;have:=(z.env.dJ.sg c hc).pl;omega
   clear z h hw;go_enter Tryz.func31,Tryz.ntmps31
   go_wp2_with fail
   refine AT.out.mono ?_;rintro e w1 ⟨rfl,hb1⟩;have B1:=Lib.hid (hb1.alloc (by have:=hb1.size;omega) (.cells #[.int .i64 0, .int .i64 0, .int .u64 0] 129));clear hb1;go_wp2
   go_ret2
   exact ⟨fun c hc o ho=>(by rw [FIN.out c hc] at ho;cases ho),fun _=>rfl,B1.out⟩
end
end Go.Proofs.YtpibbcnkgdmcbaaGreatDoor
namespace Go.Proofs.YtpibbcnkgdmcbaaGreatDoor
open Go.RowKit aC aF aG aI au aD aB aA bf
def Si (o:bY) (a:Nat):Nat×Int:=if fF o.P.f o.P.s (o.P.n:Int) a=0∧gB o.P.f o.P.s (o.P.n:Int) a<o.P.made then (o.P.s,0) else (0,5)
theorem OJ (f s:Nat) (n:Int) (w:World):(Instr.field 96 (.agg #[.int .u64 (f:Int), .int .u64 (s:Int), .int .i64 n]) 1).run Tryz.prog w= .ok (.int .u64 (s:Int)) w:=by kernel_rfl
def XO (hu:Nat→Nat) (l:List SB) (a:Nat) (w:World) (e:Ending) (w':World):Prop:=
 (∀k,fI hu a=some k→e= .returned (.tuple #[.int .u64 ((hu k*16384:Nat):Int), .int .i64 0]))∧
 (fI hu a=none→(∀b∈l,∀o,bJ b.X a=some o→e= .returned (.tuple #[.int .u64 ((Si o a).1:Int), .int .i64 (Si o a).2]))∧((∀b∈l,bJ b.X a=none)→e= .returned (.tuple #[.int .u64 0, .int .i64 5])))∧Below w.heap.size w w'
theorem ED {hu:Nat→Nat} {a k:Nat} (h:fI hu a=some k):k<64∧k=a/16384∧a%16384=0∧hu k≠0:=by
 unfold fI at h;split at h
 · rename_i h1
   injection h with h
   subst h;exact ⟨by omega,rfl,h1.2.1,h1.2.2⟩
 · cases h
section
variable {w0 w w':World} {C:fH w0} {K:kW w0 C} {s p q g:Nat} {hb:Nat→Nat} {own:Nat→Prop} {O:Nat→Nat→Prop} {B:Nat→List SB} {R:List SB} {P:SY} {L:List Nat} {S:Nat→Prop}
theorem F6 (z:qy C K s p q hb g own O B R P L w) (hw:Below w0.heap.size w0 w) {a:Nat} (ha:bM a):
 Calls Tryz.prog 12 #[.pointer (some ⟨s,0,none⟩), .int .u64 (a:Int)] w (XO P.hu (cu B R) a w):=by
 have HA:=JZ z.cs ha;have zU:=fun w1 (h:Below w.heap.size w w1)=>(z.upd (ak h) fun _ x=>x.elim);cases hh:fI P.hu a with
 |some k=>
  obtain ⟨k1,k2,k3,k4⟩:=ED hh;rw [hh] at HA;unfold yG at HA;simp only [] at HA;have HA:=Lib.hid HA;have h64:=z.RZ k k1;obtain ⟨n,hn⟩: ∃n,P.hu k=n:=⟨_,rfl⟩;have CH:=Lib.hid (show ∀wr,Below w.heap.size w wr→wr.cell? ⟨s,77+k,none⟩=some (.int .i64 (n:Int)) from fun wr h=>by rw [←hn];exact (zU wr h).cs.huge k1);rw [hn] at h64;have q1:(0:Int)≤(k:Int):=by omega
  have q2:(k:Int)<64:=by omega
  have wA:IntKind.u64.wrap (n:Int)=(n:Int):=IntWalk.u64_in _ ⟨by omega,by omega⟩;obtain ⟨N,hN⟩: ∃N,n*16384=N:=⟨_,rfl⟩;have eN:(n:Int)*16384=(N:Int):=by omega
  have wN:IntKind.u64.wrap (N:Int)=(N:Int):=IntWalk.u64_in _ ⟨by omega,by omega⟩;have FIN:Hid (∀j,fI P.hu a=some j→P.hu j*16384=N):=Lib.hid fun j hj=>by
   rw [hh] at hj;injection hj with hj;rw [←hj,hn,hN]
  have HH:=Lib.hid hh;clear z zU k1 k2 k3 k4 hh hn hN hw h64;go_enter Tryz.func12,Tryz.ntmps12
  go_wp2_with fail
  refine HA.out.mono ?_;rintro e w1 ⟨rfl,hb1⟩;have c9:=CH.out _ hb1;have B1:=Lib.hid hb1;clear hb1;go_wp2
  go_ret2
  refine ⟨fun j hj=> ?_,fun h=> ?_,B1.out⟩
  · have e1:=FIN.out j hj
    show Ending.returned (.tuple #[.int .u64 (N:Int), .int .i64 0])=_;rw [e1]
  · rw [HH.out] at h;cases h
 |none=>
  rw [hh] at HA;unfold yG at HA;simp only [] at HA;have HA:=Lib.hid HA;have HH:=Lib.hid hh;have FI:=fun w1 (h:Below w.heap.size w w1)=>yQ (zU w1 h) (ah hw hw.size h) ha;by_cases hf: ∃b∈cu B R,∃o,bJ b.X a=some o
  · obtain ⟨b,jL,o,hfo⟩:=hf
    have ho:=(gW hfo).1;have FI:=Lib.hid (fun w1 (h:Below w.heap.size w w1)=>(FI w1 h).mono fun e w' k=>(show e= .returned (.tuple #[.pointer (some ⟨b.sp,0,none⟩), .pointer (some ⟨o.op,0,none⟩)])∧Below w1.heap.size w1 w' from ⟨k.1 b jL o hfo,k.2.2⟩));have hsg:=z.env.dJ.sg b jL;have Mi:=(hsg.pg o ho).2.1;have CO:=Lib.hid (fun w1 (h:Below w.heap.size w w1)=>(show w1.cell? ⟨o.op,0,none⟩=some (.pointer (some ⟨o.pp,0,none⟩)) from (((zU w1 h).env.dJ.sg b jL).own o ho).cell 0));have RU:=Lib.hid (fun w1 (h:Below w.heap.size w w1)=>GK w1 (((zU w1 h).env.dJ.sg b jL).pg o ho).1);have MA:=Lib.hid (fun w1 (h:Below w.heap.size w w1)=>TR (((zU w1 h).env.dJ.sg b jL).pg o ho).1);have hbig:=Mi.big;have hfit:=Mi.fit;have hln:=hsg.len;have aby:=Mi.n2;have hsn:o.P.s≤o.P.n*o.P.s:=Nat.le_mul_of_pos_left _ Mi.n1;have IX:=Lib.hid (fun w1=>y8 w1 o.P.f o.P.s (o.P.n:Int) a (by have:=Mi.f0;omega) (by have:=Mi.s16;omega) (by omega) ha);have FIN:Hid (∀c∈cu B R,∀u,bJ c.X a=some u→Si u a=Si o a):=Lib.hid fun c hc u hu=>by
     have:=mR z.env.dJ.nd hc jL ((kI hu).trans (kI hfo).symm);subst this;rw [hfo] at hu;injection hu with hu;rw [hu]
    have FI2:Hid (¬ ∀c∈cu B R,bJ c.X a=none):=Lib.hid fun h=>by have:=h b jL;rw [hfo] at this;cases this
    obtain ⟨sp,hsp⟩: ∃sp,b.sp=sp:=⟨_,rfl⟩;obtain ⟨op,hop⟩: ∃op,o.op=op:=⟨_,rfl⟩;obtain ⟨pp,hpp⟩: ∃pp,o.pp=pp:=⟨_,rfl⟩;rw [hsp,hop] at FI;rw [hop,hpp] at CO;rw [hpp] at RU MA;obtain ⟨ix,hix⟩: ∃ix,gB o.P.f o.P.s (o.P.n:Int) a=ix:=⟨_,rfl⟩;obtain ⟨ie,hie⟩: ∃ie,fF o.P.f o.P.s (o.P.n:Int) a=ie:=⟨_,rfl⟩;rw [hix,hie] at IX;obtain ⟨mk,hmk⟩: ∃mk,o.P.made=mk:=⟨_,rfl⟩;rw [hmk] at MA;have wQ:Si o a=if ie=0∧ix<mk then (o.P.s,0) else (0,5):=by unfold Si;rw [hix,hie,hmk]
    unfold iW at RU IX;obtain ⟨f1,hf1⟩: ∃x,o.P.f=x:=⟨_,rfl⟩;obtain ⟨s1,hs1⟩: ∃x,o.P.s=x:=⟨_,rfl⟩;obtain ⟨n1,hn1⟩: ∃x,o.P.n=x:=⟨_,rfl⟩;rw [hf1,hs1,hn1] at RU IX;rw [hs1] at wQ;have hFS:=OJ f1 s1 (n1:Int);clear z zU hh hw jL hfo ho hsg Mi hbig hfit hln aby hsn hsp hop hpp hix hie hmk hf1 hs1 hn1;by_cases h1:ie=0
    · subst h1
      by_cases h2:ix<mk
      · rw [if_pos ⟨rfl,h2⟩] at wQ
        have HUS:=Lib.hid wQ;have t1:decide ((mk:Int)≤(ix:Int))=false:=decide_eq_false (by omega);have t1':decide (mk≤ix)=false:=decide_eq_false (by omega);clear wQ h2;go_enter Tryz.func12,Tryz.ntmps12
        go_wp2_with fail
        refine HA.out.mono ?_;rintro e w1 ⟨rfl,hb1⟩;have B1:=Lib.hid hb1;clear hb1;go_wp2_with fail
        refine (FI.out _ B1.out).mono ?_;rintro e w2 ⟨rfl,hb2⟩;have B2:=Lib.hid (ah B1.out B1.out.size hb2);have c9:=CO.out _ B2.out;clear hb2;go_wp2_with fail
        refine (RU.out _ B2.out).mono ?_;rintro e w3 ⟨rfl,hb3⟩;have B3:=Lib.hid (ah B2.out B2.out.size hb3);clear hb3 c9;go_wp2_with fail
        refine (IX.out _).mono ?_;rintro e w4 ⟨rfl,hb4⟩;have B4:=Lib.hid (ah B3.out B3.out.size hb4);have c9:=CO.out _ B4.out;clear hb4;go_wp2_with fail
        refine (MA.out _ B4.out).mono ?_;rintro e w5 ⟨rfl,hb5⟩;have B5:=Lib.hid (ah B4.out B4.out.size hb5);clear hb5 c9;have c9:=CO.out _ B5.out;go_wp2_with fail
        refine (RU.out _ B5.out).mono ?_;rintro e w6 ⟨rfl,hb6⟩;have B6:=Lib.hid (ah B5.out B5.out.size hb6);clear hb6 c9;go_wp2
        go_ret2
        refine ⟨fun j hj=>(by rw [HH.out] at hj;cases hj),fun _=>⟨fun c hc u hu=> ?_,fun h=>absurd h FI2.out⟩,B6.out⟩;rw [FIN.out c hc u hu,HUS.out];rfl
      · rw [if_neg fun h=>h2 h.2] at wQ
        have HUS:=Lib.hid wQ;have t1:decide ((mk:Int)≤(ix:Int))=true:=decide_eq_true (by omega);have t1':decide (mk≤ix)=true:=decide_eq_true (by omega);clear wQ h2;go_enter Tryz.func12,Tryz.ntmps12
        go_wp2_with fail
        refine HA.out.mono ?_;rintro e w1 ⟨rfl,hb1⟩;have B1:=Lib.hid hb1;clear hb1;go_wp2_with fail
        refine (FI.out _ B1.out).mono ?_;rintro e w2 ⟨rfl,hb2⟩;have B2:=Lib.hid (ah B1.out B1.out.size hb2);have c9:=CO.out _ B2.out;clear hb2;go_wp2_with fail
        refine (RU.out _ B2.out).mono ?_;rintro e w3 ⟨rfl,hb3⟩;have B3:=Lib.hid (ah B2.out B2.out.size hb3);clear hb3 c9;go_wp2_with fail
        refine (IX.out _).mono ?_;rintro e w4 ⟨rfl,hb4⟩;have B4:=Lib.hid (ah B3.out B3.out.size hb4);have c9:=CO.out _ B4.out;clear hb4;go_wp2_with fail
        refine (MA.out _ B4.out).mono ?_;rintro e w5 ⟨rfl,hb5⟩;have B5:=Lib.hid (ah B4.out B4.out.size hb5);clear hb5 c9;go_wp2
        go_ret2
        refine ⟨fun j hj=>(by rw [HH.out] at hj;cases hj),fun _=>⟨fun c hc u hu=> ?_,fun h=>absurd h FI2.out⟩,B5.out⟩;rw [FIN.out c hc u hu,HUS.out];rfl
    · rw [if_neg fun h=>h1 h.1] at wQ
      have HUS:=Lib.hid wQ;have t1:(ie !=0)=true:=by rw [bne_iff_ne];exact h1
      clear wQ h1;go_enter Tryz.func12,Tryz.ntmps12
      go_wp2_with fail
      refine HA.out.mono ?_;rintro e w1 ⟨rfl,hb1⟩;have B1:=Lib.hid hb1;clear hb1;go_wp2_with fail
      refine (FI.out _ B1.out).mono ?_;rintro e w2 ⟨rfl,hb2⟩;have B2:=Lib.hid (ah B1.out B1.out.size hb2);have c9:=CO.out _ B2.out;clear hb2;go_wp2_with fail
      refine (RU.out _ B2.out).mono ?_;rintro e w3 ⟨rfl,hb3⟩;have B3:=Lib.hid (ah B2.out B2.out.size hb3);clear hb3 c9;go_wp2_with fail
      refine (IX.out _).mono ?_;rintro e w4 ⟨rfl,hb4⟩;have B4:=Lib.hid (ah B3.out B3.out.size hb4);clear hb4;go_wp2
      go_ret2
      refine ⟨fun j hj=>(by rw [HH.out] at hj;cases hj),fun _=>⟨fun c hc u hu=> ?_,fun h=>absurd h FI2.out⟩,B4.out⟩;rw [FIN.out c hc u hu,HUS.out];rfl
  · have hno: ∀b∈cu B R,bJ b.X a=none:=fun b jL=>by
     cases hf2:bJ b.X a with
     |none=>rfl
     |some o=>exact absurd ⟨b,jL,o,hf2⟩ hf
    have FI:=Lib.hid (fun w1 (h:Below w.heap.size w w1)=>(FI w1 h).mono fun e w' k=>(show e= .returned (.tuple #[.pointer none, .pointer none])∧Below w1.heap.size w1 w' from ⟨k.2.1 hno,k.2.2⟩));have FIN:=Lib.hid hno;clear z zU hh hw hno hf;go_enter Tryz.func12,Tryz.ntmps12
    go_wp2_with fail
    refine HA.out.mono ?_;rintro e w1 ⟨rfl,hb1⟩;have B1:=Lib.hid hb1;clear hb1;go_wp2_with fail
    refine (FI.out _ B1.out).mono ?_;rintro e w2 ⟨rfl,hb2⟩;have B2:=Lib.hid (ah B1.out B1.out.size hb2);clear hb2;go_wp2
    go_ret2
    exact ⟨fun j hj=>(by rw [HH.out] at hj;cases hj),fun _=>⟨fun c hc u hu=>(by rw [FIN.out c hc] at hu;cases hu),fun _=>rfl⟩,B2.out⟩
end
end Go.Proofs.YtpibbcnkgdmcbaaGreatDoor
