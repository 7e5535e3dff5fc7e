/- Lists12: texts of layers below, joined (ListCl ListG ListIt ListCh ListLs ListRt ListAl ListPp ListJn). -/
import Derived.Test.YtpibbcnkgdmcbaaGreatDoorElems
import Derived.Test.YtpibbcnkgdmcbaaGreatDoorSmalls12
import Derived.Test.YtpibbcnkgdmcbaaGreatDoorMaths12
import Derived.Test.YtpibbcnkgdmcbaaGreatDoorMems12
import Derived.Test.YtpibbcnkgdmcbaaGreatDoorPlaces
import Derived.RangeFuncNested
import Derived.RangeFuncBound
import Derived.RangeFuncCalls
import Derived.RangeFuncLeaves
import Derived.RangeFuncBox
import Derived.Shelf.Abstract
import Derived.Shelf.RegionOpen
import Derived.WalkKit
import Derived.OwnWalkIn
import Derived.TacticsInMore
import Derived.LoopNIn
import Derived.LoopIn
import Derived.Laws.Small
import Derived.Deep.RegionHeld3
import Derived.IntWalk
import Derived.LaidEqlPtr
set_option linter.unusedVariables false
set_option maxRecDepth 100000
set_option maxHeartbeats 4000000
namespace Go.Proofs.YtpibbcnkgdmcbaaGreatDoor
open Go.RowKit aC
def wM (h:Nat) (n:Int):Array Value:= #[.int .u64 (h:Int), .int .i64 n]
abbrev aat (n:Int):Prop:=0≤n∧n≤1000000000
structure One (w:World) (p g lp:Nat) (s:LS) (w':World):Prop where
 mem:bC w' p g s.L
 G_:aV w' lp 138 (wM s.h s.n)
 fp:w.heap.size≤p
 fg:w.heap.size≤g
 fl:w.heap.size≤lp
 below:Below w.heap.size w w'
theorem One.turn {w w' w2:World} {p g lp:Nat} {s t:LS} {S:Nat→Prop} (h:One w p g lp s w') (hm:bC w2 p g t.L) (hl:aV w2 lp 138 (wM t.h t.n)) (u:aH S w' w2) (hS: ∀b,S b→b=g∨b=lp):One w p g lp t w2:=
 ⟨hm,hl,h.fp,h.fg,h.fl,h.below.trans (u.below (fun b hb=>by rcases hS b hb with rfl|rfl;exact h.fg;exact h.fl) h.below.size)⟩
theorem One.grew {w w' w2:World} {p g lp:Nat} {s:LS} (h:One w p g lp s w') (hb:Below w'.heap.size w' w2):One w p g lp s w2:=
 ⟨h.mem.upd (ak hb) id id,h.G_.grew hb,h.fp,h.fg,h.fl,ah h.below h.below.size hb⟩
theorem One.alloc {w w':World} {p g lp:Nat} {s:LS} (h:One w p g lp s w') (o:Obj):One w p g lp s (w'.alloc o):=h.grew ((Below.refl _ w').alloc (Nat.le_refl _) o)
end Go.Proofs.YtpibbcnkgdmcbaaGreatDoor
namespace Go.Proofs.YtpibbcnkgdmcbaaGreatDoor
open Go.RowKit aC
structure PL (w:World) (p g lp o:Nat) (s:LS):Prop where
 mem:bC w p g s.L
 G_:dD w lp o s.h s.n
 np:lp≠p
 ng:lp≠g
def yB (L:List Nat) (lh oh:Nat) (ln on:Int):LS×LS:=(r_ L lh ln oh on).getD (⟨L,lh,ln⟩,⟨L,oh,on⟩)
def RY (lp o op o2:Nat):Prop:=lp≠op∨o+2≤o2∨o2+2≤o
end Go.Proofs.YtpibbcnkgdmcbaaGreatDoor
namespace Go.Proofs.YtpibbcnkgdmcbaaGreatDoor
open Go.RowKit Go.Shelf aC
attribute [local go_sem] Oper.semAt_some
def Keeps (K:Nat→Prop) (W W':World):Prop:= ∀k,K k→W'.heap[k]? =W.heap[k]?
theorem Keeps.refl (K:Nat→Prop) (W:World):Keeps K W W:=fun _ _=>rfl
theorem jA {K:Nat→Prop} {A B C:World} (h:Keeps K A B) (k:Keeps K B C):Keeps K A C:=fun i hi=>(k i hi).trans (h i hi)
theorem rZ {K:Nat→Prop} {w:World} (hn: ∀k,K k→k<w.heap.size) (W:World) (l:Nat) (o o':Obj) (hl:w.heap.size≤l) (h:W.heap[l]? =some o) (_:o.isCells=false) (_:o.isWalk=false):Keeps K W (W.putObj l o'):=
 fun k hk=>(grownBy_putObj' W l o').block k (by have:=hn k hk;have:=(Array.getElem?_eq_some_iff.1 h).1;omega) (by have:=hn k hk;intro e;injection e;omega)
theorem Keeps.setCell {K:Nat→Prop} {W W':World} (h:Keeps K W W') {a:Addr} (ha: ¬K a.block) (v:Value):Keeps K W (W'.setCell a v):=
 jA h fun k hk=>Below.heap_setCell _ _ _ _ (fun e=>ha (e▸hk))
theorem yx (K:Nat→Prop) (W:World):Keeps K W W.drew:=fun _ _=>rfl
theorem Keeps.upd {K S:Nat→Prop} {W W' W2:World} (h:Keeps K W W') (u:aH S W' W2) (hk: ∀k,K k→k<W'.heap.size∧ ¬S k):Keeps K W W2:=
 jA h fun k hK=>u.block k (hk k hK).1 (hk k hK).2
theorem Keeps.cell {K:Nat→Prop} {W W':World} (h:Keeps K W W') {a:Addr} (ha:K a.block):W'.cell? a=W.cell? a:=World.cell?_of_block (h _ ha)
def K3 (p g b:Nat) (k:Nat):Prop:=k=p∨k=g∨k=b
theorem bC.kept {W W':World} {p g b:Nat} {L:List Nat} (h:bC W p g L) (k:Keeps (K3 p g b) W W'):bC W' p g L:=
 ⟨(k p (.inl rfl)).trans h.head,(k g (.inr (.inl rfl))).trans h.row,h.XA,h.big⟩
abbrev Nw:Type:={x:Nat×Nat//x.1≤1048576∧x.2≤18446744073709551615}
abbrev B_ (x:Nw):Array Value:= #[.int .u64 (x.1.1:Int), .int .u64 (x.1.2:Int)]
def jW (L:List Nat) (Z h0:Nat) (xs:List Nw):Prop:=xs.map (·.1)=gD L Z h0
def lX (L:List Nat) (m:Int):Nat:=min m.toNat L.length
def aag (L:List Nat) (Z h0 p g b:Nat) (J:List Nw→World→Prop) (W:World) (x i:Value) (wr:World):Prop:=
 ∃(pre:List Nw) (k a:Nat),k≤Z∧pre.length=k∧a≤18446744073709551615∧x= .int .u64 (a:Int)∧i= .int .i64 (k:Int)∧pre.map (·.1)++gD L (Z-k) a=gD L Z h0∧J pre wr∧Keeps (K3 p g b) W wr
theorem Hf {L:List Nat} (h:ay.lC L) {a:Nat} (h8:a+8≤L.length):dX L a≤18446744073709551615:=by
 have:=ay.F4 (h.part a 8);rw [ay.dM h8] at this;unfold dX;omega
theorem grownBy_drew (w:World):w.grownBy w.drew none:=⟨rfl,rfl,rfl,Nat.le_refl _,fun _ _ _=>rfl⟩
theorem VF {w:World} {p g:Nat} {L:List Nat} (h:bC w p g L) {a:Nat} (h8:a+8≤L.length):Calls Tryz.prog 171 #[.pointer (some ⟨p,0,none⟩), .int .u64 (a:Int), .int .i64 8] w fun e w'=>e= .returned (.tuple #[.int .u64 (dX L a:Int), .int .i64 0])∧w=w':=Ub h a 8 (.inr (.inr (.inr rfl))) h8
theorem Am {w:World} {p g:Nat} {L:List Nat} (h:bC w p g L) {a:Nat} (h8: ¬a+8≤L.length):Calls Tryz.prog 171 #[.pointer (some ⟨p,0,none⟩), .int .u64 (a:Int), .int .i64 8] w fun e w'=>e= .returned (.tuple #[.int .u64 0, .int .i64 3])∧w=w':=P8 h a 8 (.inr (.inr (.inr rfl))) (by omega)
theorem I7 (n:Nat) (hn:1≤n) (l bh bs b p g:Nat) (L:List Nat) (h0:Nat) (hh:h0≤18446744073709551615) (m:Int) (hm1: -9223372036854775808≤m) (hm2:m≤9223372036854775807) (J Jx:List Nw→World→Prop) (W:World) (hJ:AbidesFrom W.heap.size J)
 (hY: ∀pre x W,J pre W→pre.length<1048576→YieldAt Fence.wide (n-1) Tryz.prog l (B_ x) W fun e W'=>
  (e= .returned (.bool true)∧J (pre++ [x]) W'∧Keeps (K3 p g b) W W')∨(e= .returned (.bool false)∧Jx (pre++ [x]) W'))
 (hbh:W.cell? ⟨bh,0,none⟩=some (.int .u64 (h0:Int))) (hbs:W.cell? ⟨bs,0,none⟩=some (.int .i64 m)) (hb:W.cell? ⟨b,0,none⟩=some (.pointer (some ⟨p,0,none⟩))) (hm:bC W p g L) (hJ0:J [] W):
 CallsIn Fence.wide n Tryz.prog 188 #[.func (.yield l) #[] #[], .pointer (some ⟨bh,0,none⟩), .pointer (some ⟨bs,0,none⟩), .pointer (some ⟨b,0,none⟩)] W fun e W'=>(∃v,e= .returned v)∧
  ((∃ys,jW L (lX L m) h0 ys∧J ys W')∨(∃pre,True∧Jx pre W')):=by
 have hbig:=hm.big;have HS:=Lib.hid (fun (w':World) (k:Keeps (K3 p g b) W w')=>lJ (hm.kept k));have hJ1:J [] W.drew:=hJ _ _ _ none hJ0 (grownBy_drew W) (fun r e=>by cases e);obtain ⟨N,hN⟩: ∃N,L.length=N:=⟨_,rfl⟩;have HN:=Lib.hid hN;obtain ⟨z,hz⟩: ∃z:Int,(if (N:Int)<m then (N:Int) else m)=z:=⟨_,rfl⟩;have hzm:z.toNat=lX L m:=by unfold lX;rw [hN,←hz];split<;>omega
 rw [hN] at hbig HS;have adM:z≤(N:Int):=by rw [←hz];split<;>omega
 have adN: -9223372036854775808≤z:=by rw [←hz];split<;>omega
 have hmin: ∀w,(Builtin.min_ #[3,3] 3 #[.int .i64 m, .int .i64 (N:Int)]).run Tryz.prog w= .ok (.int .i64 z) w:=fun w=>by rw [run_min_int2,hz]
 rw [←hzm];obtain ⟨Z,hZ⟩: ∃Z,z.toNat=Z:=⟨_,rfl⟩;rw [hZ];have HZ:=Lib.hid hZ;have ad5:Z≤1048576:=by omega
 have H:=Lib.hid hm;have H0:=Lib.hid hJ1;have HB:=Lib.hid hb;have HY:=Lib.hid hY;have hwN:IntKind.i64.wrap (N:Int)=(N:Int):=IntWalk.i64_in _ ⟨by omega,by omega⟩;clear hm hJ0 hJ1 hJ hY hN hzm hZ;refine callsIn_of_wp Tryz.func188 rfl trivial ?_ rfl;simp only [Tryz.ntmps188,List.size_toArray,List.length_cons,List.length_nil,Nat.reduceAdd,Nat.reduceSub,Array.replicate_succ,Array.replicate_zero,List.push_toArray,List.append_toArray,List.nil_append,List.cons_append];refine wpIn_wide.2 ?_;go_wp2_with fail
 go_region_held3 (fun w'=>w'.cell? ⟨bs,0,none⟩=some (.int .i64 m)∧w'.cell? ⟨b,0,none⟩=some (.pointer (some ⟨p,0,none⟩))) (first|go_keep|exact ⟨hbs,hb⟩)
  (first
   |(go_at_call 154;with_reducible refine (HS.out _ (yx _ _)).mono ?_;rintro e w5 ⟨rfl,rfl⟩))
 clear hwN hz hmin hbh hbs hb;rename_i Q1 K1 hK1 fG;clear fG;refine hK1 _ _ ?_;clear hK1 K1;refine wpIn_wide (n:=n).1 ?_
 gi_wp2
 gi_loopw [5,14] (fun x i wr=>aag L Z h0 p g b J W x i wr) (fun _ i _=>Z-(intOf i).toNat)
 case atStart=>exact ⟨[],0,h0,Nat.zero_le _,rfl,hh,rfl,rfl,rfl,H0.out,yx _ _⟩
 case round=>
  obtain ⟨pre,k,a,hk,hpk,ha,rfl,rfl,hx,hJ,hkp⟩:=hrel;have hc3:wr.cell? ⟨b,0,none⟩=some (.pointer (some ⟨p,0,none⟩)):=(hkp.cell (a:=⟨b,0,none⟩) (.inr (.inr rfl))).trans HB.out;have Zq:=H.out.kept hkp;have HX:=Lib.hid hx;have HJ:=Lib.hid hJ;have HK:=Lib.hid hkp;have HP:=Lib.hid hpk;have M:=Lib.hid Zq;clear hx hJ hkp hpk Zq;by_cases hlt:(k:Int)<z
  · have t1:decide ((k:Int)<z)=true:=decide_eq_true hlt
    have hkZ:k<Z:=by rw [←HZ.out];omega
    by_cases ha0:a=0
    · subst ha0
      have t2:(((0:Nat):Int)==0)=true:=by decide
      have hx:=HX.out;rw [FZ,List.append_nil] at hx;have HA:=Lib.hid hx;clear hx HX
      gi_wp2
      refine bodyPost_ret (results_none rfl _ _ _) rfl ?_;exact ⟨⟨_,rfl⟩, .inl ⟨pre,HA.out,HJ.out⟩⟩
    · have t2:((a:Int)==0)=false:=by rw [beq_eq_false_iff_ne];omega
      by_cases h8:a+8≤L.length
      · obtain ⟨c,hc⟩: ∃c,dX L a=c:=⟨_,rfl⟩
        have hcb:c≤18446744073709551615:=by rw [←hc];exact Hf H.out.XA h8
        have hx:=HX.out;rw [NG (by omega) ha0 h8 hc] at hx;have hld:=VF M.out h8;rw [hc] at hld;have abO:a≤1048576:=by have:=H.out.big;omega
        obtain ⟨x,Hu⟩: ∃x:Nw,x=⟨(a,c),abO,hcb⟩:=⟨_,rfl⟩;obtain ⟨fn,tmps,assign,body,hy,hR⟩:=HY.out pre x wr HJ.out (by rw [HP.out];omega);have hx1:x.1.1=a:=by rw [Hu]
        have hx2:x.1.2=c:=by rw [Hu]
        have hx3:x.1=(a,c):=by rw [Hu]
        dsimp only [B_] at hy;rw [hx1,hx2] at hy;have LD:=Lib.hid hld;have HX2:=Lib.hid hx;have X3:=Lib.hid hx3;clear Hu hx1 hx2 hx3 hx hld hc h8 HX ha0
        gi_wp2_with (refine ⟨trivial, ?_⟩;gi_at_call 171;refine (callsIn_wide.2 LD.out).mono ?_;rintro e w' ⟨rfl,rfl⟩)
        refine hR.mono ?_;rintro e W3 (⟨rfl,hJ3,hk3⟩|⟨rfl,hJx3⟩)
        · have H3:=Lib.hid (And.intro hJ3 hk3);clear hJ3 hk3
          gi_wp2
          go_roundw
          case rel=>exact ⟨pre++ [x],k+1,c,by omega,by rw [List.length_append,HP.out];rfl,hcb,rfl,by go_num,by
           rw [List.map_append,List.append_assoc];show pre.map (·.1)++([x.1]++_)=_;rw [X3.out,←HX2.out,show Z-k-1=Z-(k+1) by omega];rfl,H3.out.1,jA HK.out H3.out.2⟩
          case measure=>simp [intOf];omega
        · have H3:=Lib.hid hJx3;clear hJx3
          gi_wp2
          refine bodyPost_ret (results_none rfl _ _ _) rfl ?_;exact ⟨⟨_,rfl⟩, .inr ⟨pre++ [x],trivial,H3.out⟩⟩
      · have hx:=HX.out
        rw [KC h8,List.append_nil] at hx;have HA:=Lib.hid hx;have LD:=Lib.hid (Am M.out h8);clear hx HX h8 ha0
        gi_wp2_with (refine ⟨trivial, ?_⟩;gi_at_call 171;refine (callsIn_wide.2 LD.out).mono ?_;rintro e w' ⟨rfl,rfl⟩)
        refine ⟨fun _ h=>(by cases h), ?_⟩
        gi_wp2
        refine bodyPost_ret (results_none rfl _ _ _) rfl ?_;exact ⟨⟨_,rfl⟩, .inl ⟨pre,HA.out,HJ.out⟩⟩
  · have t1:decide ((k:Int)<z)=false:=decide_eq_false hlt
    have hkZ:k=Z:=by have:=HZ.out;omega
    have hx:=HX.out;rw [hkZ,Nat.sub_self] at hx;have HA:Hid (pre.map (·.1)=gD L Z h0):=Lib.hid (by rw [←hx];simp [gD]);clear hx HX hkZ
    gi_wp2
    go_end0
    exact ⟨⟨_,rfl⟩, .inl ⟨pre,HA.out,HJ.out⟩⟩
theorem A9 (n:Nat) (a:Option Addr) (h0 m:Int) (w:World):
 CallsIn Fence.wide n Tryz.prog 184 #[.pointer a, .int .u64 h0, .int .i64 m] w fun e w'=>e= .returned (.func (.func 188) #[] #[.pointer (some ⟨w.heap.size+1,0,none⟩), .pointer (some ⟨w.heap.size+1+1,0,none⟩), .pointer (some ⟨w.heap.size,0,none⟩)])∧
  w'=((w.alloc (.cells #[.pointer a] 48)).alloc (.cells #[.int .u64 h0] 22)).alloc (.cells #[.int .i64 m] 3):=by
 refine callsIn_wide.2 ?_;go_enter Tryz.func184,Tryz.ntmps184
 go_wp2;go_ret;exact ⟨rfl,rfl⟩
theorem sQ (n:Nat) (hn:1≤n) (bh bs b p g:Nat) (L:List Nat) (h0:Nat) (hh:h0≤18446744073709551615) (m:Int) (hm1: -9223372036854775808≤m) (hm2:m≤9223372036854775807) (w:World)
 (hbh:w.cell? ⟨bh,0,none⟩=some (.int .u64 (h0:Int))) (hbs:w.cell? ⟨bs,0,none⟩=some (.int .i64 m)) (hb:w.cell? ⟨b,0,none⟩=some (.pointer (some ⟨p,0,none⟩))) (hm:bC w p g L):
 SeqStopsK Fence.wide n Tryz.prog 188 #[.pointer (some ⟨bh,0,none⟩), .pointer (some ⟨bs,0,none⟩), .pointer (some ⟨b,0,none⟩)] B_ (Keeps (K3 p g b)) (jW L (lX L m) h0) (fun _=>True) 1048576 w:=fun l J Jx W hW hJ _ hY hJ0=>
 I7 n hn l bh bs b p g L h0 hh m hm1 hm2 J Jx W hJ hY ((hW.cell (p:=⟨bh,0,none⟩) (World.block_lt_of_cell? w _ hbh)).trans hbh) ((hW.cell (p:=⟨bs,0,none⟩) (World.block_lt_of_cell? w _ hbs)).trans hbs) ((hW.cell (p:=⟨b,0,none⟩) (World.block_lt_of_cell? w _ hb)).trans hb) (hm.upd (ak hW) id id) hJ0
end Go.Proofs.YtpibbcnkgdmcbaaGreatDoor
namespace Go.Proofs.YtpibbcnkgdmcbaaGreatDoor
open Go.RowKit Go.Shelf aC
attribute [local go_sem] Oper.semAt_some
theorem XB (w:World) (c0 c1 c2:Array Value) (t0 t1 t2:TypeId): ∃W,((w.alloc (.cells c0 t0)).alloc (.cells c1 t1)).alloc (.cells c2 t2)=W∧aV W w.heap.size t0 c0∧aV W (w.heap.size+1) t1 c1∧aV W (w.heap.size+1+1) t2 c2∧W.heap.size=w.heap.size+1+1+1∧Below w.heap.size w W:=by
 refine ⟨_,rfl,((aV.new w _ _).alloc _).alloc _, ?_, ?_,by simp,(((Below.refl _ w).alloc (Nat.le_refl _) _).alloc (by simp) _).alloc (by simp;omega) _⟩
 · have:=(aV.new (w.alloc (.cells c0 t0)) t1 c1).alloc (.cells c2 t2)
   rwa [World.size_alloc] at this
 · have:=aV.new ((w.alloc (.cells c0 t0)).alloc (.cells c1 t1)) t2 c2
   rwa [World.size_alloc,World.size_alloc] at this
def DY (pre:List Nw):List (Nat×Nat):=pre.map (·.1)
theorem DX (pre:List Nw) (x:Nw):DY (pre++ [x])=DY pre++ [x.1]:=by unfold DY;rw [List.map_append];rfl
theorem IU {L:List Nat} {m:Int} {h:Nat} {xs:List Nw} (e:jW L (lX L m) h xs):bT L h m=if uP h (DY xs)=0 then some ((DY xs).map (·.1)) else none:=by
 have:=rowF_walk L (lX L m) h;rw [←e] at this;exact this
def YB (x:Nat):Array Value:= #[.int .u64 (x:Int)]
def Vs (w:World) (h:Nat) (pre:List Nw) (W:World):Prop:=
 (aV W w.heap.size 138 (wM 0 0)∧aV W (w.heap.size+1) 138 (wM h (pre.length:Int))∧aV W (w.heap.size+1+1) 22 (YB (uP h (DY pre))))∧Below w.heap.size w W
theorem QZ {w:World} {B:Nat} (hB:w.heap.size≤B) (h:Nat):OwnFrom B (Vs w h):=
 OwnFrom.and (Own.from (gF (wV _ _ _) (gF (wV _ _ _) (wV _ _ _))) _) (ownFrom_below (Nat.le_refl _) hB)
theorem QY (p g:Nat) (L:List Nat) (h:Nat) (m:Int) (w:World) (hm:bC w p g L) (hh:h≤18446744073709551615) (hm1: -9223372036854775808≤m) (hm2:m≤9223372036854775807):
 CallsIn Fence.wide 5 Tryz.prog 174 #[.pointer (some ⟨p,0,none⟩), .int .u64 (h:Int), .int .i64 m] w fun e w'=>e= .returned (.tuple #[.agg (if (bT L h m).isSome then wM h (((bT L h m).getD []).length:Int) else wM 0 0), .int .i64 (if (bT L h m).isSome then 0 else 3)])∧Below w.heap.size w w':=by
 have hp:=hm.head.lt;have hg:=hm.row.lt;have HM:=Lib.hid hm;clear hm;obtain ⟨V,hV⟩: ∃V,Value.tuple #[.agg (if (bT L h m).isSome then wM h (((bT L h m).getD []).length:Int) else wM 0 0), .int .i64 (if (bT L h m).isSome then 0 else 3)]=V:=⟨_,rfl⟩;rw [hV];have HV:=Lib.hid hV;clear hV;refine callsIn_of_wp_marks Tryz.func174 rfl trivial ?_ rfl;simp only [Tryz.ntmps174,List.size_toArray,List.length_cons,List.length_nil,Nat.reduceAdd,Nat.reduceSub,Array.replicate_succ,Array.replicate_zero,List.push_toArray,List.append_toArray,List.nil_append,List.cons_append];refine wpIn_wide.2 ?_;go_wp2_with fail
 obtain ⟨W0,hW0,b6,b8,b9,s0,u0⟩:=XB w #[.int .u64 0, .int .i64 0] #[.int .u64 (h:Int), .int .i64 0] #[.int .u64 (h:Int)] 138 138 22;rw [hW0];have I0:Vs w h [] W0:=⟨⟨b6,b8,b9⟩,u0⟩;have M0:=Lib.hid (HM.out.upd (ak u0) id id);clear b6 b8 b9 u0 hW0;have II:=Lib.hid I0;have S0:=Lib.hid s0;clear I0 s0;refine (callsIn_wide.1 (A9 5 _ _ _ _)).mono ?_;rintro e w' ⟨rfl,hw'⟩;obtain ⟨W1,hW1,b10,b11,b12,s1,u1⟩:=XB W0 #[.pointer (some ⟨p,0,none⟩)] #[.int .u64 (h:Int)] #[.int .i64 m] 48 22 3;rw [hW1] at hw';subst W1;have c1:=b10.cell 0;have c2:=b11.cell 0;have c3:=b12.cell 0;have M1:=M0.out.upd (ak u1) id id;have I1:Vs w h [] w':=by
  obtain ⟨⟨h1,h2,h3⟩,h4⟩:=II.out;exact ⟨⟨h1.grew u1,h2.grew u1,h3.grew u1⟩,ah h4 h4.size u1⟩
 have II:=Lib.hid I1;have MM:=Lib.hid M1;have S1:=Lib.hid s1;have C1:=Lib.hid c1;have C2:=Lib.hid c2;have C3:=Lib.hid c3;clear I1 M1 s1 c1 c2 c3 b10 b11 b12 u1 M0;go_wp2_with fail
 refine wpIn_wide (n:=5).1 ?_;have hsw:w'.heap.size=w.heap.size+6:=by rw [S1.out,S0.out]
 refine wpIn_rangeFunc_ownF rfl (by decide) (gf:=188) (lb:= #[.pointer (some ⟨W0.heap.size+1,0,none⟩), .pointer (some ⟨W0.heap.size+1+1,0,none⟩), .pointer (some ⟨W0.heap.size,0,none⟩)]) rfl trivial (enters_of Tryz.func188 (by kernel_rfl) rfl)
  (sQ _ (by decide) (W0.heap.size+1) (W0.heap.size+1+1) W0.heap.size p g L h hh m hm1 hm2 w' C2.out C3.out C1.out MM.out) jA (rZ (fun k hk=>by have:=S0.out;rcases hk with rfl|rfl|rfl<;>omega)) (Below.refl _ _) (fun _=>rfl)
  (Vs w h) (fun _ _ _=>False) (QZ (by omega) h) (fun _ _ _ _ _ hs _ _=>hs) II.out
  (fun x=>{tmps:= #[.pointer (some ⟨p,0,none⟩), .int .u64 (h:Int), .int .i64 m,undef,undef,undef, .pointer (some ⟨w.heap.size,0,none⟩), .int .i64 0, .pointer (some ⟨w.heap.size+1,0,none⟩), .pointer (some ⟨w.heap.size+1+1,0,none⟩),undef, .int .u64 (x.1.2:Int), .pointer (some ⟨p,0,none⟩), .bool false,undef, .int .u64 (h:Int), .agg #[.int .u64 (h:Int), .int .i64 0], .int .u64 (h:Int), .pointer (some ⟨p,0,none⟩), .int .u64 (h:Int), .int .i64 m,
   .func (.func 188) #[] #[.pointer (some ⟨W0.heap.size+1,0,none⟩), .pointer (some ⟨W0.heap.size+1+1,0,none⟩), .pointer (some ⟨W0.heap.size,0,none⟩)], .int .u64 (x.1.1:Int), .int .u64 (x.1.2:Int),undef,undef,undef,undef,undef,undef,undef,undef,undef],defers:= []}) ?assign ?body ?done ?stop
 case assign=>
  intro l x W K hK
  gi_wp2
  exact hK
 case body=>
  rintro l pre x W ⟨⟨h6,h8,h9⟩,hB⟩ hlen;have d0:W.cell? ⟨w.heap.size+1,1,none⟩=some (.int .i64 (pre.length:Int)):=h8.cell 1;have f0:=h8.frozen 1;have d1:W.cell? ⟨w.heap.size+1+1,0,none⟩=some (.int .u64 ((uP h (DY pre):Nat):Int)):=h9.cell 0;have f1:=h9.frozen 0;have hsn:=DX pre x;have hl1:(pre++ [x]).length=pre.length+1:=by simp
  obtain ⟨E,hE⟩: ∃E,uP h (DY pre)=E:=⟨_,rfl⟩;rw [hE] at d1;obtain ⟨⟨xa,xk⟩,Hu⟩:=x;have hxa:xa≤1048576:=Hu.1;have hxk:xk≤18446744073709551615:=Hu.2;obtain ⟨c,hc⟩: ∃c,pre.length=c:=⟨_,rfl⟩;rw [hc] at d0 hlen;have HB:=Lib.hid hB;have H6:=Lib.hid h6;have H8:=Lib.hid h8;have H9:=Lib.hid h9;have HE:=Lib.hid hE;have HS:=Lib.hid hsn;have HL:=Lib.hid hl1;have HC:=Lib.hid hc;clear hB h6 h8 h9 hE hsn hl1 hc
  gi_wp2
  have n1: ¬K3 p g W0.heap.size (w.heap.size+1):=by have:=S0.out;rintro (h|h|h)<;>omega
  have n2: ¬K3 p g W0.heap.size (w.heap.size+1+1):=by have:=S0.out;rintro (h|h|h)<;>omega
  refine ⟨(KeepsOthers.setCell _ _ _).trans (KeepsOthers.setCell _ _ _),((Keeps.refl _ _).setCell n1 _).setCell n2 _,⟨?_, ?_, ?_⟩, ?_⟩
  · exact (H6.out.far (by simp only;omega) _).far (by simp only;omega) _
  · have h8:=(H8.out.put 1 (.int .i64 ((c:Int)+1))).far (p:=⟨w.heap.size+1+1,0,none⟩) (by simp only;omega) (.int .u64 (xk:Int))
    rw [HL.out,HC.out];exact h8
  · have h9:=(H9.out.far (p:=⟨w.heap.size+1,1,none⟩) (by simp only;omega) (.int .i64 ((c:Int)+1))).put 0 (.int .u64 (xk:Int))
    rw [HS.out,MQ];exact h9
  · exact (HB.out.setCell (p:=⟨w.heap.size+1,1,none⟩) (by simp only;omega) _).setCell (p:=⟨w.heap.size+1+1,0,none⟩) (by simp only;omega) _
 case done=>
  rintro D xs W hD hS ⟨⟨h6,h8,h9⟩,hB⟩ hK;have vF:=IU hS;have d1:W.cell? ⟨w.heap.size+1+1,0,none⟩=some (.int .u64 ((uP h (DY xs):Nat):Int)):=h9.cell 0;have e0:W.cell? ⟨w.heap.size+1,0,none⟩=some (.int .u64 (h:Int)):=h8.cell 0;have e1:W.cell? ⟨w.heap.size+1,1,none⟩=some (.int .i64 (xs.length:Int)):=h8.cell 1;have k0:W.cell? ⟨w.heap.size,0,none⟩=some (.int .u64 0):=h6.cell 0;have k1:W.cell? ⟨w.heap.size,1,none⟩=some (.int .i64 0):=h6.cell 1;have f0:=h6.frozen 0;have f1:=h6.frozen 1;have hlen:(DY xs).length=xs.length:=by simp [DY]
  obtain ⟨E,hE⟩: ∃E,uP h (DY xs)=E:=⟨_,rfl⟩;obtain ⟨c,hc⟩: ∃c,xs.length=c:=⟨_,rfl⟩;obtain ⟨R,hR⟩: ∃R,bT L h m=R:=⟨_,rfl⟩;rw [hE] at d1 vF;rw [hc] at e1 hlen;rw [hR] at vF;have HR:=Lib.hid hR;have HB:=Lib.hid hB;have H6:=Lib.hid h6;have KK:=Lib.hid hK;have HLEN:=Lib.hid hlen;have HD:=Lib.hid (show w.heap.size+1+1+1<D by omega);clear h8 h9 hE hc hR hS hB h6 hK hD hlen;by_cases hE0:E=0
  · subst hE0
    rw [if_pos rfl] at vF;have t1:(((0:Nat):Int) !=0)=false:=by decide
    have HCM:=Lib.hid vF;clear vF;go_wp2;have hK':=((KeepsOthers.setCell W ⟨w.heap.size,0,none⟩ (.int .u64 (h:Int))).trans (KeepsOthers.setCell _ ⟨w.heap.size,1,none⟩ (.int .i64 (c:Int)))).same D _ KK.out rfl;have hb6:=((H6.out.put 0 (.int .u64 (h:Int))).put 1 (.int .i64 (c:Int))).putObj (.deferred none) hK' rfl;have q0:=hb6.cell 0;have q1:=hb6.cell 1;have hsz:=HD.out;refine ⟨by simp, .inl ⟨_,_,rfl,run_takeDeferred hK', ?_⟩⟩;refine ⟨.tuple #[.agg #[.int .u64 (h:Int), .int .i64 (c:Int)], .int .i64 0],by simp [results,Tryz.f174,go_sem,wM] at q0 q1⊢;simp [q0,q1], ?_, ?_⟩
    · rw [←HV.out,HR.out,HCM.out]
      simp [wM,HLEN.out]
    · exact ((HB.out.setCell (p:=⟨w.heap.size,0,none⟩) (Nat.le_refl _) _).setCell (p:=⟨w.heap.size,1,none⟩) (Nat.le_refl _) _).trans (belowK_b (w:=w) (Nat.le_refl _) _ D _ _ (by omega) hK' rfl rfl)
  · rw [if_neg hE0] at vF
    have t1:((E:Int) !=0)=true:=by rw [bne_iff_ne];omega
    have HCM:=Lib.hid vF;clear vF hE0;go_wp2;have hK':=((KeepsOthers.setCell W ⟨w.heap.size,0,none⟩ (.int .u64 0)).trans (KeepsOthers.setCell _ ⟨w.heap.size,1,none⟩ (.int .i64 0))).same D _ KK.out rfl;have hb6:=((H6.out.put 0 (.int .u64 0)).put 1 (.int .i64 0)).putObj (.deferred none) hK' rfl;have q0:=hb6.cell 0;have q1:=hb6.cell 1;have hsz:=HD.out;refine ⟨by simp, .inl ⟨_,_,rfl,run_takeDeferred hK', ?_⟩⟩;refine ⟨.tuple #[.agg #[.int .u64 0, .int .i64 0], .int .i64 3],by simp [results,Tryz.f174,go_sem,wM] at q0 q1⊢;simp [q0,q1], ?_, ?_⟩
    · rw [←HV.out,HR.out,HCM.out]
      simp [wM]
    · exact ((HB.out.setCell (p:=⟨w.heap.size,0,none⟩) (Nat.le_refl _) _).setCell (p:=⟨w.heap.size,1,none⟩) (Nat.le_refl _) _).trans (belowK_b (w:=w) (Nat.le_refl _) _ D _ _ (by omega) hK' rfl rfl)
 case stop=>
  rintro D c pre W _ _ h _;exact h.elim
end Go.Proofs.YtpibbcnkgdmcbaaGreatDoor
namespace Go.Proofs.YtpibbcnkgdmcbaaGreatDoor
open Go.RowKit Go.Shelf aC
attribute [local go_sem] Oper.semAt_some
structure aau (w:World) (p h:Nat) (m:Int) (w':World):Prop where
 b0:aV w' w.heap.size 48 #[.pointer (some ⟨p,0,none⟩)]
 b1:aV w' (w.heap.size+1) 22 #[.int .u64 (h:Int)]
 b2:aV w' (w.heap.size+1+1) 3 #[.int .i64 m]
 size:w'.heap.size=w.heap.size+1+1+1
 below:Below w.heap.size w w'
theorem Fh (p h:Nat) (m:Int) (w:World):Calls Tryz.prog 184 #[.pointer (some ⟨p,0,none⟩), .int .u64 (h:Int), .int .i64 m] w.drew fun e w'=>e= .returned (.func (.func 188) #[] #[.pointer (some ⟨w.heap.size+1,0,none⟩), .pointer (some ⟨w.heap.size+1+1,0,none⟩), .pointer (some ⟨w.heap.size,0,none⟩)])∧aau w p h m w':=by
 refine (callsIn_wide.1 (A9 5 _ _ _ _)).mono ?_;rintro e w' ⟨rfl,hw'⟩;obtain ⟨W1,hW1,b10,b11,b12,s1,u1⟩:=XB w.drew #[.pointer (some ⟨p,0,none⟩)] #[.int .u64 (h:Int)] #[.int .i64 m] 48 22 3;rw [hW1] at hw';subst W1;exact ⟨rfl,b10,b11,b12,s1,(Below.refl _ w).drew.trans u1⟩
def oJ (l:List (Nat×Nat)):Nat:=ku (l.map (·.1))
theorem Hl (l:List (Nat×Nat)) (x:Nat×Nat):oJ (l++ [x])=x.1:=by unfold oJ ku;simp
def Vk (w:World) (pre:List Nw) (W:World):Prop:=aV W w.heap.size 22 (YB (oJ (DY pre)))∧Below w.heap.size w W
theorem P5 {w:World} {B:Nat} (hB:w.heap.size≤B):OwnFrom B (Vk w):=OwnFrom.and (Own.from (wV _ _ _) _) (ownFrom_below (Nat.le_refl _) hB)
theorem Uf (p g lp o:Nat) (L:List Nat) (h:Nat) (m:Int) (w:World) (hm:bC w p g L) (hl:dD w lp o h m) (hh:h≤18446744073709551615) (hm1: -9223372036854775808≤m) (hm2:m≤9223372036854775807):
 CallsIn Fence.wide 5 Tryz.prog 186 #[.pointer (some ⟨lp,o,none⟩), .pointer (some ⟨p,0,none⟩)] w fun e w'=>e= .returned (.int .u64 ((oJ (gD L (lX L m) h):Nat):Int))∧Below w.heap.size w w':=by
 have hp:=hm.head.lt;have hg:=hm.row.lt;have hlt:=hl.lt;have l0:w.cell? ⟨lp,o,none⟩=some (.int .u64 (h:Int)):=hl.c0;have l1:w.cell? ⟨lp,o+1,none⟩=some (.int .i64 m):=hl.c1;have HM:=Lib.hid hm;clear hm hl;refine callsIn_of_wp_marks Tryz.func186 rfl trivial ?_ rfl;simp only [Tryz.ntmps186,List.size_toArray,List.length_cons,List.length_nil,Nat.reduceAdd,Nat.reduceSub,Array.replicate_succ,Array.replicate_zero,List.push_toArray,List.append_toArray,List.nil_append,List.cons_append];refine wpIn_wide.2 ?_;go_wp2_with fail
 have b5:=aV.new w 22 #[.int .u64 0];have u0:=(Below.refl w.heap.size w).alloc (Nat.le_refl _) (.cells #[.int .u64 0] 22);obtain ⟨W0,hW0⟩: ∃W,w.alloc (.cells #[.int .u64 0] 22)=W:=⟨_,rfl⟩;have s0:W0.heap.size=w.heap.size+1:=by rw [←hW0];simp
 rw [hW0] at b5 u0⊢;have c0:W0.cell? ⟨lp,o,none⟩=some (.int .u64 (h:Int)):=(u0.cell (p:=⟨lp,o,none⟩) hlt).trans l0;have c1:W0.cell? ⟨lp,o+1,none⟩=some (.int .i64 m):=(u0.cell (p:=⟨lp,o+1,none⟩) hlt).trans l1;have I0:Vk w [] W0:=⟨b5,u0⟩;have M0:=Lib.hid (HM.out.upd (ak u0) id id);have II:=Lib.hid I0;have S0:=Lib.hid s0;clear hW0 b5 u0 I0 s0 l0 l1 hlt;go_region_held3 (fun w'=>w'.cell? ⟨lp,o,none⟩=some (.int .u64 (h:Int))∧w'.cell? ⟨lp,o+1,none⟩=some (.int .i64 m)) (first|go_keep|exact ⟨c0,c1⟩)
  (first
   |(go_at_call 184;with_reducible refine (Fh _ _ _ _).mono ?_;rintro e w' ⟨rfl,hbx⟩;have BX:=Lib.hid hbx;have c0:w'.cell? ⟨lp,o,none⟩=some (.int .u64 (h:Int)):=(hbx.below.cell (p:=⟨lp,o,none⟩) (World.block_lt_of_cell? W0 _ c0)).trans c0;have c1:w'.cell? ⟨lp,o+1,none⟩=some (.int .i64 m):=(hbx.below.cell (p:=⟨lp,o+1,none⟩) (World.block_lt_of_cell? W0 _ c1)).trans c1;clear hbx))
 have MM:=M0.out.upd (ak BX.out.below) id id;have I1:Vk w [] w':=⟨II.out.1.grew BX.out.below,ah II.out.2 II.out.2.size BX.out.below⟩;have hsw:w'.heap.size=w.heap.size+4:=by rw [BX.out.size,S0.out]
 have MH:=Lib.hid MM;have I1H:=Lib.hid I1;clear MM I1 II M0 c0 c1;go_wp2_with fail
 refine wpIn_wide (n:=5).1 ?_;refine wpIn_rangeFunc_ownF rfl (by decide) (gf:=188) (lb:= #[.pointer (some ⟨W0.heap.size+1,0,none⟩), .pointer (some ⟨W0.heap.size+1+1,0,none⟩), .pointer (some ⟨W0.heap.size,0,none⟩)]) rfl trivial (enters_of Tryz.func188 (by kernel_rfl) rfl)
  (sQ _ (by decide) (W0.heap.size+1) (W0.heap.size+1+1) W0.heap.size p g L h hh m hm1 hm2 w' (BX.out.b1.cell 0) (BX.out.b2.cell 0) (BX.out.b0.cell 0) MH.out) jA (rZ (fun k hk=>by have:=S0.out;rcases hk with rfl|rfl|rfl<;>omega)) (Below.refl _ _) (fun _=>rfl)
  (Vk w) (fun _ _ _=>False) (P5 (by omega)) (fun _ _ _ _ _ hs _ _=>hs) I1H.out
  (fun x=>{tmps:= #[.pointer (some ⟨lp,o,none⟩), .pointer (some ⟨p,0,none⟩),undef,undef, .int .u64 0, .pointer (some ⟨w.heap.size,0,none⟩), .int .u64 (x.1.1:Int), .pointer (some ⟨p,0,none⟩), .pointer (some ⟨lp,o,none⟩), .pointer (some ⟨lp,o,none⟩), .pointer (some ⟨lp,o,none⟩), .int .u64 (h:Int), .pointer (some ⟨lp,o,none⟩), .pointer (some ⟨lp,o,none⟩), .pointer (some ⟨lp,o+1,none⟩), .int .i64 m,
   .func (.func 188) #[] #[.pointer (some ⟨W0.heap.size+1,0,none⟩), .pointer (some ⟨W0.heap.size+1+1,0,none⟩), .pointer (some ⟨W0.heap.size,0,none⟩)], .int .u64 (x.1.1:Int), .int .u64 (x.1.2:Int),undef,undef],defers:= []}) ?assign ?body ?done ?stop
 case assign=>
  intro l x W K hK
  gi_wp2
  exact hK
 case body=>
  rintro l pre x W ⟨h5,hB⟩ hlen;have d1:W.cell? ⟨w.heap.size,0,none⟩=some (.int .u64 ((oJ (DY pre):Nat):Int)):=h5.cell 0;have f1:=h5.frozen 0;obtain ⟨E,hE⟩: ∃E,oJ (DY pre)=E:=⟨_,rfl⟩;rw [hE] at d1;have hsn:=DX pre x;have HB:=Lib.hid hB;have H5:=Lib.hid h5;have HS:=Lib.hid hsn;clear hB h5 hsn hE hlen
  gi_wp2
  have n1: ¬K3 p g W0.heap.size w.heap.size:=by have:=S0.out;rintro (h|h|h)<;>omega
  refine ⟨KeepsOthers.setCell _ _ _,(Keeps.refl _ _).setCell n1 _, ?_,HB.out.setCell (p:=⟨w.heap.size,0,none⟩) (Nat.le_refl _) _⟩;rw [HS.out,Hl];exact H5.out.put 0 (.int .u64 (x.1.1:Int))
 case done=>
  rintro D xs W hD hS ⟨h5,hB⟩ hK;have d1:W.cell? ⟨w.heap.size,0,none⟩=some (.int .u64 ((oJ (DY xs):Nat):Int)):=h5.cell 0;have hE:DY xs=gD L (lX L m) h:=hS;obtain ⟨R,hR⟩: ∃R,oJ (gD L (lX L m) h)=R:=⟨_,rfl⟩;rw [hE,hR] at d1;have HR:=Lib.hid hR;have HB:=Lib.hid hB;have KK:=Lib.hid hK;have HD:=Lib.hid (show w.heap.size<D by omega);clear hR hB hK hE hS h5 hD;go_wp2;have hsz:=HD.out;refine ⟨by simp, .inl ⟨_,_,rfl,run_takeDeferred KK.out, ?_⟩⟩;refine ⟨_,results_tmp rfl _ _ _, ?_,HB.out.trans (belowK_b (w:=w) (Nat.le_refl _) W D _ _ (by omega) KK.out rfl rfl)⟩;rw [HR.out];rfl
 case stop=>
  rintro D c pre W _ _ h _;exact h.elim
theorem P_ (p g lp o:Nat) (L:List Nat) (h:Nat) (m:Int) (w:World) (hm:bC w p g L) (hl:dD w lp o h m) (hh:h≤18446744073709551615) (hm1: -9223372036854775808≤m) (hm2:m≤9223372036854775807):
 Calls Tryz.prog 186 #[.pointer (some ⟨lp,o,none⟩), .pointer (some ⟨p,0,none⟩)] w fun e w'=>e= .returned (.int .u64 ((oJ (gD L (lX L m) h):Nat):Int))∧Below w.heap.size w w':=callsIn_wide.1 (Uf p g lp o L h m w hm hl hh hm1 hm2)
theorem pR (p g:Nat) (L:List Nat) (h:Nat) (m:Int) (w:World) (hm:bC w p g L) (hh:h≤18446744073709551615) (hm1: -9223372036854775808≤m) (hm2:m≤9223372036854775807):
 Calls Tryz.prog 174 #[.pointer (some ⟨p,0,none⟩), .int .u64 (h:Int), .int .i64 m] w fun e w'=>e= .returned (.tuple #[.agg (if (bT L h m).isSome then wM h (((bT L h m).getD []).length:Int) else wM 0 0), .int .i64 (if (bT L h m).isSome then 0 else 3)])∧Below w.heap.size w w':=callsIn_wide.1 (QY p g L h m w hm hh hm1 hm2)
end Go.Proofs.YtpibbcnkgdmcbaaGreatDoor
namespace Go.Proofs.YtpibbcnkgdmcbaaGreatDoor
open Go.RowKit aC
theorem IQ (w:World) {p g lp o h:Nat} {L:List Nat} {n:Int} (hm:bC w p g L) (hl:dD w lp o h n) (hh:h≤18446744073709551615) (hn:0≤n∧n≤1000000000) (V:Value) (hV:Value.tuple #[.agg (if (bT L h n).isSome then wM h (((bT L h n).getD []).length:Int) else wM 0 0), .int .i64 (if (bT L h n).isSome then 0 else 3)]=V):
 (Calls Tryz.prog 174 #[.pointer (some ⟨p,0,none⟩), .int .u64 (h:Int), .int .i64 n] w.drew fun e w'=>e= .returned V∧Below w.heap.size w w'∧w'.cell? ⟨lp,o,none⟩=some (.int .u64 (h:Int))∧w'.cell? ⟨lp,o+1,none⟩=some (.int .i64 n))∧
 (Calls Tryz.prog 174 #[.pointer (some ⟨p,0,none⟩), .int .u64 (h:Int), .int .i64 n] (w.alloc (.cells #[.int .u64 0, .int .i64 0] 138)).drew fun e w'=>e= .returned V∧aV w' w.heap.size 138 #[.int .u64 0, .int .i64 0]∧Below w.heap.size w w'∧w'.cell? ⟨lp,o,none⟩=some (.int .u64 (h:Int))∧w'.cell? ⟨lp,o+1,none⟩=some (.int .i64 n)):=by
 subst hV;have hlt:=hl.lt;have b1:Below w.heap.size w w.drew:=(Below.refl _ w).drew;have b2:Below w.heap.size w (w.alloc (.cells #[.int .u64 0, .int .i64 0] 138)).drew:=((Below.refl _ w).alloc (Nat.le_refl _) _).drew;constructor
 · refine (pR p g L h n w.drew (hm.upd (ak b1) id id) hh (by omega) (by omega)).mono ?_
   rintro e w' ⟨rfl,hb⟩;have hb':=b1.trans hb;exact ⟨rfl,hb',(hb'.cell (p:=⟨lp,o,none⟩) hlt).trans hl.c0,(hb'.cell (p:=⟨lp,o+1,none⟩) hlt).trans hl.c1⟩
 · refine (pR p g L h n _ (hm.upd (ak b2) id id) hh (by omega) (by omega)).mono ?_
   rintro e w' ⟨rfl,hb⟩;have hb':=ah b2 b2.size hb;exact ⟨rfl,(aV.new w _ _).drew.grew hb,hb',(hb'.cell (p:=⟨lp,o,none⟩) hlt).trans hl.c0,(hb'.cell (p:=⟨lp,o+1,none⟩) hlt).trans hl.c1⟩
theorem Lc (w:World) {p g lp o h:Nat} {L:List Nat} {n:Int} (hm:bC w p g L) (hl:dD w lp o h n) (hh:h≤18446744073709551615) (hn:0≤n∧n≤1000000000):
 Calls Tryz.prog 185 #[.pointer (some ⟨lp,o,none⟩), .pointer (some ⟨p,0,none⟩)] w fun e w'=>e= .returned (.bool (tu ⟨L,h,n⟩).isSome)∧Below w.heap.size w w':=by
 have hlt:=hl.lt;have c0:w.cell? ⟨lp,o,none⟩=some (.int .u64 (h:Int)):=hl.c0;have c1:w.cell? ⟨lp,o+1,none⟩=some (.int .i64 n):=hl.c1;obtain ⟨V,hV⟩: ∃V,Value.tuple #[.agg (if (bT L h n).isSome then wM h (((bT L h n).getD []).length:Int) else wM 0 0), .int .i64 (if (bT L h n).isSome then 0 else 3)]=V:=⟨_,rfl⟩;have hcd:=IQ w hm hl hh hn V hV;have hne:w.heap.size≠lp:=Nat.ne_of_gt hlt;have hne2:lp≠w.heap.size:=Nat.ne_of_lt hlt;obtain ⟨n0,n1⟩:=hn;have hal:=tq (s:=⟨L,h,n⟩) n0;simp only [] at hal;obtain ⟨A,hA⟩: ∃A,tu ⟨L,h,n⟩=A:=⟨_,rfl⟩;obtain ⟨C,hC⟩: ∃C,bT L h n=C:=⟨_,rfl⟩;rw [hA,hC] at hal;rw [hC] at hV;rw [hA];clear hm hl hA hC;cases C with
 |none=>
  have hA:A=none:=hal;subst hA;simp only [Option.isSome_none,Bool.false_eq_true,if_false,wM] at hV;subst hV;have XZ:=Lib.hid hcd.1;have XY:=Lib.hid hcd.2;clear hcd hal;simp only [Option.isSome_none];go_enter Tryz.func185,Tryz.ntmps185
  go_wp2_with fail
  go_region_held3 (fun w'=>w'.cell? ⟨lp,o,none⟩=some (.int .u64 (h:Int))∧w'.cell? ⟨lp,o+1,none⟩=some (.int .i64 n)) (first|go_keep|exact ⟨c0,c1⟩)
   (first
    |(go_at_call 174;(with_reducible refine XZ.out.mono ?_);rintro e w5 ⟨rfl,hb,k0,k1⟩;have B5:=Lib.hid hb;clear hb;have c0:=k0;have c1:=k1;clear k0 k1)
    |(go_at_call 174;(with_reducible refine XY.out.mono ?_);rintro e w5 ⟨rfl,hk,hb,k0,k1⟩;have B5:=Lib.hid hb;have NB:=Lib.hid hk;have a0:w5.cell? ⟨w.heap.size,0,none⟩=some (.int .u64 0):=hk.cell 0;have a1:w5.cell? ⟨w.heap.size,1,none⟩=some (.int .i64 0):=hk.cell 1;have g0:w5.frozen? ⟨w.heap.size,0,none⟩=false:=hk.frozen 0;have g1:w5.frozen? ⟨w.heap.size,1,none⟩=false:=hk.frozen 1;clear hb hk;have c0:=k0;have c1:=k1;clear k0 k1))
  · go_wp2_with fail
    go_quiet (fail)
    go_wp2;go_ret;exact ⟨rfl,below_drewN (B5.out.alloc B5.out.size _) _⟩
  · go_wp2_with fail
    go_quiet (fail)
    go_wp2;go_ret;exact ⟨rfl,below_drewN ((B5.out.setCell (p:=⟨w.heap.size,0,none⟩) (Nat.le_refl _) _).setCell (p:=⟨w.heap.size,1,none⟩) (Nat.le_refl _) _) _⟩
 |some r=>
  simp only [Option.isSome_some,if_true,Option.getD_some,wM] at hV;subst hV;simp only [] at hal;have XZ:=Lib.hid hcd.1;have XY:=Lib.hid hcd.2;obtain ⟨k,hk⟩: ∃k,r.length=k:=⟨_,rfl⟩;rw [hk] at XZ XY hal;clear hcd hk;by_cases hkn:(k:Int)=n
  · subst hkn
    rw [if_pos (by omega)] at hal;subst hal;simp only [Option.isSome_some];go_enter Tryz.func185,Tryz.ntmps185
    go_wp2_with fail
    go_region_held3 (fun w'=>w'.cell? ⟨lp,o,none⟩=some (.int .u64 (h:Int))∧w'.cell? ⟨lp,o+1,none⟩=some (.int .i64 (k:Int))) (first|go_keep|exact ⟨c0,c1⟩)
     (first
      |(go_at_call 174;(with_reducible refine XZ.out.mono ?_);rintro e w5 ⟨rfl,hb,k0,k1⟩;have B5:=Lib.hid hb;clear hb;have c0:=k0;have c1:=k1;clear k0 k1)
      |(go_at_call 174;(with_reducible refine XY.out.mono ?_);rintro e w5 ⟨rfl,hk,hb,k0,k1⟩;have B5:=Lib.hid hb;have NB:=Lib.hid hk;have a0:w5.cell? ⟨w.heap.size,0,none⟩=some (.int .u64 0):=hk.cell 0;have a1:w5.cell? ⟨w.heap.size,1,none⟩=some (.int .i64 0):=hk.cell 1;have g0:w5.frozen? ⟨w.heap.size,0,none⟩=false:=hk.frozen 0;have g1:w5.frozen? ⟨w.heap.size,1,none⟩=false:=hk.frozen 1;clear hb hk;have c0:=k0;have c1:=k1;clear k0 k1))
    · rename_i fG
      have x0:(w5.alloc (.cells #[.int .u64 (h:Int), .int .i64 (k:Int)] 138)).cell? ⟨lp,o,none⟩=some (.int .u64 (h:Int)):=fG.1;have x1:(w5.alloc (.cells #[.int .u64 (h:Int), .int .i64 (k:Int)] 138)).cell? ⟨lp,o+1,none⟩=some (.int .i64 (k:Int)):=fG.2;have nb:=aV.new w5 138 #[.int .u64 (h:Int), .int .i64 (k:Int)];have y0:(w5.alloc (.cells #[.int .u64 (h:Int), .int .i64 (k:Int)] 138)).cell? ⟨w5.heap.size,0,none⟩=some (.int .u64 (h:Int)):=nb.cell 0;have y1:(w5.alloc (.cells #[.int .u64 (h:Int), .int .i64 (k:Int)] 138)).cell? ⟨w5.heap.size,1,none⟩=some (.int .i64 (k:Int)):=nb.cell 1;have hB:Below w.heap.size w (w5.alloc (.cells #[.int .u64 (h:Int), .int .i64 (k:Int)] 138)):=B5.out.alloc B5.out.size _;obtain ⟨b,hb⟩: ∃b,w5.heap.size=b:=⟨_,rfl⟩;obtain ⟨w6,Au⟩: ∃x,w5.alloc (.cells #[.int .u64 (h:Int), .int .i64 (k:Int)] 138)=x:=⟨_,rfl⟩;rw [hb] at y0 y1⊢;rw [Au] at x0 x1 y0 y1 hB⊢;have HB:=Lib.hid hB;clear nb hb Au hB c0 c1 B5 fG;go_wp2_with fail
      go_quiet (fail)
      go_wp2;go_ret;exact ⟨rfl,below_drewN HB.out _⟩
    · rename_i fG
      have x0:((w5.setCell ⟨w.heap.size,0,none⟩ (.int .u64 (h:Int))).setCell ⟨w.heap.size,1,none⟩ (.int .i64 (k:Int))).cell? ⟨lp,o,none⟩=some (.int .u64 (h:Int)):=fG.1;have x1:((w5.setCell ⟨w.heap.size,0,none⟩ (.int .u64 (h:Int))).setCell ⟨w.heap.size,1,none⟩ (.int .i64 (k:Int))).cell? ⟨lp,o+1,none⟩=some (.int .i64 (k:Int)):=fG.2;have nb:=(NB.out.put 0 (.int .u64 (h:Int))).put 1 (.int .i64 (k:Int));have y0:((w5.setCell ⟨w.heap.size,0,none⟩ (.int .u64 (h:Int))).setCell ⟨w.heap.size,1,none⟩ (.int .i64 (k:Int))).cell? ⟨w.heap.size,0,none⟩=some (.int .u64 (h:Int)):=nb.cell 0;have y1:((w5.setCell ⟨w.heap.size,0,none⟩ (.int .u64 (h:Int))).setCell ⟨w.heap.size,1,none⟩ (.int .i64 (k:Int))).cell? ⟨w.heap.size,1,none⟩=some (.int .i64 (k:Int)):=nb.cell 1;have hB:Below w.heap.size w ((w5.setCell ⟨w.heap.size,0,none⟩ (.int .u64 (h:Int))).setCell ⟨w.heap.size,1,none⟩ (.int .i64 (k:Int))):=(B5.out.setCell (p:=⟨w.heap.size,0,none⟩) (Nat.le_refl _) _).setCell (p:=⟨w.heap.size,1,none⟩) (Nat.le_refl _) _;obtain ⟨b,hb⟩: ∃b,w.heap.size=b:=⟨_,rfl⟩;obtain ⟨w6,Au⟩: ∃x,(w5.setCell ⟨w.heap.size,0,none⟩ (.int .u64 (h:Int))).setCell ⟨w.heap.size,1,none⟩ (.int .i64 (k:Int))=x:=⟨_,rfl⟩;rw [Au] at x0 x1 y0 y1 hB⊢;have HB:=Lib.hid hB;clear nb Au hB c0 c1 B5 fG a0 a1 g0 g1 NB hb b;go_wp2_with fail
      go_quiet (fail)
      go_wp2;go_ret;exact ⟨rfl,below_drewN HB.out _⟩
  · rw [if_neg (by omega)] at hal
    subst hal;simp only [Option.isSome_none];go_enter Tryz.func185,Tryz.ntmps185
    go_wp2_with fail
    go_region_held3 (fun w'=>w'.cell? ⟨lp,o,none⟩=some (.int .u64 (h:Int))∧w'.cell? ⟨lp,o+1,none⟩=some (.int .i64 n)) (first|go_keep|exact ⟨c0,c1⟩)
     (first
      |(go_at_call 174;(with_reducible refine XZ.out.mono ?_);rintro e w5 ⟨rfl,hb,k0,k1⟩;have B5:=Lib.hid hb;clear hb;have c0:=k0;have c1:=k1;clear k0 k1)
      |(go_at_call 174;(with_reducible refine XY.out.mono ?_);rintro e w5 ⟨rfl,hk,hb,k0,k1⟩;have B5:=Lib.hid hb;have NB:=Lib.hid hk;have a0:w5.cell? ⟨w.heap.size,0,none⟩=some (.int .u64 0):=hk.cell 0;have a1:w5.cell? ⟨w.heap.size,1,none⟩=some (.int .i64 0):=hk.cell 1;have g0:w5.frozen? ⟨w.heap.size,0,none⟩=false:=hk.frozen 0;have g1:w5.frozen? ⟨w.heap.size,1,none⟩=false:=hk.frozen 1;clear hb hk;have c0:=k0;have c1:=k1;clear k0 k1))
    · rename_i fG
      have x0:(w5.alloc (.cells #[.int .u64 (h:Int), .int .i64 (k:Int)] 138)).cell? ⟨lp,o,none⟩=some (.int .u64 (h:Int)):=fG.1;have x1:(w5.alloc (.cells #[.int .u64 (h:Int), .int .i64 (k:Int)] 138)).cell? ⟨lp,o+1,none⟩=some (.int .i64 n):=fG.2;have nb:=aV.new w5 138 #[.int .u64 (h:Int), .int .i64 (k:Int)];have y0:(w5.alloc (.cells #[.int .u64 (h:Int), .int .i64 (k:Int)] 138)).cell? ⟨w5.heap.size,0,none⟩=some (.int .u64 (h:Int)):=nb.cell 0;have y1:(w5.alloc (.cells #[.int .u64 (h:Int), .int .i64 (k:Int)] 138)).cell? ⟨w5.heap.size,1,none⟩=some (.int .i64 (k:Int)):=nb.cell 1;have hB:Below w.heap.size w (w5.alloc (.cells #[.int .u64 (h:Int), .int .i64 (k:Int)] 138)):=B5.out.alloc B5.out.size _;obtain ⟨b,hb⟩: ∃b,w5.heap.size=b:=⟨_,rfl⟩;obtain ⟨w6,Au⟩: ∃x,w5.alloc (.cells #[.int .u64 (h:Int), .int .i64 (k:Int)] 138)=x:=⟨_,rfl⟩;rw [hb] at y0 y1⊢;rw [Au] at x0 x1 y0 y1 hB⊢;have HB:=Lib.hid hB;clear nb hb Au hB c0 c1 B5 fG;go_wp2_with fail
      go_quiet (fail)
      go_wp2;go_ret;exact ⟨rfl,below_drewN HB.out _⟩
    · rename_i fG
      have x0:((w5.setCell ⟨w.heap.size,0,none⟩ (.int .u64 (h:Int))).setCell ⟨w.heap.size,1,none⟩ (.int .i64 (k:Int))).cell? ⟨lp,o,none⟩=some (.int .u64 (h:Int)):=fG.1;have x1:((w5.setCell ⟨w.heap.size,0,none⟩ (.int .u64 (h:Int))).setCell ⟨w.heap.size,1,none⟩ (.int .i64 (k:Int))).cell? ⟨lp,o+1,none⟩=some (.int .i64 n):=fG.2;have nb:=(NB.out.put 0 (.int .u64 (h:Int))).put 1 (.int .i64 (k:Int));have y0:((w5.setCell ⟨w.heap.size,0,none⟩ (.int .u64 (h:Int))).setCell ⟨w.heap.size,1,none⟩ (.int .i64 (k:Int))).cell? ⟨w.heap.size,0,none⟩=some (.int .u64 (h:Int)):=nb.cell 0;have y1:((w5.setCell ⟨w.heap.size,0,none⟩ (.int .u64 (h:Int))).setCell ⟨w.heap.size,1,none⟩ (.int .i64 (k:Int))).cell? ⟨w.heap.size,1,none⟩=some (.int .i64 (k:Int)):=nb.cell 1;have hB:Below w.heap.size w ((w5.setCell ⟨w.heap.size,0,none⟩ (.int .u64 (h:Int))).setCell ⟨w.heap.size,1,none⟩ (.int .i64 (k:Int))):=(B5.out.setCell (p:=⟨w.heap.size,0,none⟩) (Nat.le_refl _) _).setCell (p:=⟨w.heap.size,1,none⟩) (Nat.le_refl _) _;obtain ⟨b,hb⟩: ∃b,w.heap.size=b:=⟨_,rfl⟩;obtain ⟨w6,Au⟩: ∃x,(w5.setCell ⟨w.heap.size,0,none⟩ (.int .u64 (h:Int))).setCell ⟨w.heap.size,1,none⟩ (.int .i64 (k:Int))=x:=⟨_,rfl⟩;rw [Au] at x0 x1 y0 y1 hB⊢;have HB:=Lib.hid hB;clear nb Au hB c0 c1 B5 fG a0 a1 g0 g1 NB hb b;go_wp2_with fail
      go_quiet (fail)
      go_wp2;go_ret;exact ⟨rfl,below_drewN HB.out _⟩
end Go.Proofs.YtpibbcnkgdmcbaaGreatDoor
namespace Go.Proofs.YtpibbcnkgdmcbaaGreatDoor
open Go.RowKit Go.Shelf aC
attribute [local go_sem] Oper.semAt_some
theorem all_some {L:List Nat} {h:Nat} {n:Int} {r:List Nat} (hn:0≤n) (e:tu ⟨L,h,n⟩=some r):r=(gD L (lX L n) h).map (·.1):=by
 have h1:=tq (s:=⟨L,h,n⟩) hn;rw [e] at h1;have h2:=rowF_walk L (lX L n) h;change bT L h n=_ at h2;simp only [] at h1;rw [h2] at h1;split at h1
 · rename_i r' hr'
   split at hr'
   · injection hr' with hr'
     split at h1
     · injection h1 with h1;rw [h1,hr']
     · cases h1
   · cases hr'
 · cases h1
end Go.Proofs.YtpibbcnkgdmcbaaGreatDoor
namespace Go.Proofs.YtpibbcnkgdmcbaaGreatDoor
open Go.RowKit aC
theorem WS {w:World} {p g:Nat} {L:List Nat} (h:bC w p g L) (a:Nat):
 (a+8≤L.length→Calls Tryz.prog 171 #[.pointer (some ⟨p,0,none⟩), .int .u64 (a:Int), .int .i64 8] w fun e w'=>e= .returned (.tuple #[.int .u64 (dX L a:Int), .int .i64 0])∧w=w')∧
 (¬a+8≤L.length→Calls Tryz.prog 171 #[.pointer (some ⟨p,0,none⟩), .int .u64 (a:Int), .int .i64 8] w fun e w'=>e= .returned (.tuple #[.int .u64 0, .int .i64 3])∧w=w'):=⟨fun h8=>VF h h8,fun h8=>Am h h8⟩
def Z9 (w:World) (p g lp o k:Nat) (s:LS) (l:List Nat) (i:Value) (wr:World):Prop:=
 ∃j:Nat,j≤k∧i= .int .i64 (j:Int)∧(dY s (l.take j)).2=0∧PL wr p g lp o (dY s (l.take j)).1∧dA (fun b=>b=g) (qZ lp o) w wr
theorem DT (w:World) {p g lp o:Nat} {s:LS} (R:PL w p g lp o s) {a:Option Addr} {k cap:Nat} {l:List Nat} (hq:Seq Elem.jl w (.slice a k cap) l) (hne:0<k→ ∀b,In (.slice a k cap) b→b≠g∧b≠lp) (hx: ∀x∈l,x≤18446744073709551615) (hk:k≤100000) (hh:s.h≤18446744073709551615) (hn:0≤s.n∧s.n≤1000000000):
 Calls Tryz.prog 156 #[.pointer (some ⟨lp,o,none⟩), .pointer (some ⟨p,0,none⟩), .slice a k cap] w fun e w'=>e= .returned (.int .i64 (dY s l).2)∧PL w' p g lp o (dY s l).1∧dA (fun b=>b=g) (qZ lp o) w w':=by
 have hlen:=hq.len;have Q:=Lib.hid hq;have NE:=Lib.hid hne;have HX:=Lib.hid hx;have HK:=Lib.hid hlen;have R0:=Lib.hid R;obtain ⟨E,hE⟩: ∃E,dY s l=E:=⟨_,rfl⟩;rw [hE];have HE:=Lib.hid hE;clear hq hne hx hlen R hE;go_enter Tryz.func156,Tryz.ntmps156
 go_wp2;go_loopw [18] (fun i wr=>Z9 w p g lp o k s l i wr) (fun i _=>k-(intOf i).toNat)
 case atStart=>exact ⟨0,Nat.zero_le _,rfl,rfl,R0.out,dA.refl _ _ _⟩
 case round=>
  obtain ⟨j,hj,rfl,hz,hr,hw⟩:=hrel;by_cases hjk:j<k
  · obtain ⟨x,hx⟩: ∃x,l[j]? =some x:=⟨l[j]'(by rw [←HK.out];exact hjk),List.getElem?_eq_getElem _⟩
    have hxb:=HX.out x (List.mem_of_getElem? hx);have hjn:=JD (l.take j) s;have hjl:(l.take j).length=j:=by rw [List.length_take,←HK.out];omega
    rw [hjl] at hjn;have hnext:=Gz hx hz;have yK:=GH hx hz;have hb2:=fun b (hb:In (.slice a k cap) b)=>hw.upd.block b;have yM: ∃b off,a=some ⟨b,off,none⟩∧wr.cell? ⟨b,off+j,none⟩=some (.int .u64 (x:Int)):=by
     obtain ⟨b,off,rfl,hc⟩:=Q.out.elem hx;have h0:=hc 0 (.int .u64 (x:Int)) rfl;simp only [Elem.jl,Nat.add_zero,Nat.mul_one] at h0;have hlt:=World.block_lt_of_cell? w _ h0;have hn:=NE.out (by omega) b rfl;refine ⟨b,off,rfl,(World.cell?_of_block (a:=⟨b,off+j,none⟩) (hw.upd.block b hlt ?_)).trans h0⟩;rintro (e|⟨i,e,_⟩)
     · exact hn.1 e
     · exact hn.2 e
    obtain ⟨b,off,rfl,d0⟩:=yM;obtain ⟨⟨Lj,hd,n⟩,hS⟩: ∃S,(dY s (l.take j)).1=S:=⟨_,rfl⟩;rw [hS] at hr hnext yK hjn;have hhd:hd≤18446744073709551615:=by
     have:=JE (l.take j) s hh (fun x hx=>HX.out x (List.mem_of_mem_take hx));rw [hS] at this;exact this
    simp only [] at hjn;have c0:wr.cell? ⟨lp,o,none⟩=some (.int .u64 (hd:Int)):=hr.G_.c0;have f0:wr.frozen? ⟨lp,o,none⟩=false:=hr.G_.frozen _;have ST:=Lib.hid (Ov wr hr.mem x hd hxb hhd);have t1:decide ((j:Int)<(k:Int))=true:=decide_eq_true (by omega);have t1':decide (j<k)=true:=decide_eq_true hjk;have j0:(0:Int)≤(j:Int):=by omega
    have j1:(j:Int)<(k:Int):=by omega
    have RR:=Lib.hid hr;have WW:=Lib.hid hw;have Vn:=Lib.hid hnext;have HHL:=Lib.hid yK;obtain ⟨hj1,hj2,hj3⟩:=hjn;have HJ3:=Lib.hid hj3;clear hr hw hnext yK hx hz hS hjl hb2 hj3;by_cases hx0:x=0
    · subst hx0
      have hp:dB ⟨Lj,hd,n⟩ 0=(⟨Lj,hd,n⟩,2):=by unfold dB;rw [if_pos rfl]
      have hE:E=(⟨Lj,hd,n⟩,2):=by rw [←HE.out,HHL.out (by rw [hp];show (2:Int)≠0;decide),hp]
      subst hE;have t2:(((0:Nat):Int)==0)=true:=by decide
      clear hp ST;go_wp2;go_ret;exact ⟨rfl,RR.out,WW.out⟩
    · have t2:((x:Int)==0)=false:=by rw [beq_eq_false_iff_ne];omega
      by_cases h8:x+8≤Lj.length
      · rw [if_pos h8,if_pos h8] at ST
        have hp:dB ⟨Lj,hd,n⟩ x=(⟨ay.iC Lj x hd,x,n+1⟩,0):=by unfold dB;rw [if_neg hx0,if_pos h8]
        rw [hp] at Vn;clear hp hx0 h8;go_wp2_with fail
        refine ST.out.mono ?_;rintro e w6 ⟨rfl,Zi,Xb⟩;have R6:=Lib.hid Zi;have l6:=RR.out.G_.upd Xb RR.out.ng;have W6:=Lib.hid (WW.out.Wn Xb (fun _ h=>h));have L6:=Lib.hid l6;clear c0 f0;have c0:w6.cell? ⟨lp,o,none⟩=some (.int .u64 (hd:Int)):=l6.c0;have f0:w6.frozen? ⟨lp,o,none⟩=false:=l6.frozen _;have c1:w6.cell? ⟨lp,o+1,none⟩=some (.int .i64 n):=l6.c1;have f1:w6.frozen? ⟨lp,o+1,none⟩=false:=l6.frozen _;clear Zi Xb l6;go_wp2;go_roundw
        case rel=>
         refine ⟨j+1,by omega,by go_num,by rw [Vn.out], ?_,(W6.out.setCell ⟨rfl,Or.inl rfl⟩ _).setCell ⟨rfl,Or.inr rfl⟩ _⟩;rw [Vn.out];have hl:=(L6.out.head x).count (n+1);refine ⟨(R6.out.upd ((aH.refl (fun b=>b=lp) w6).setCell (.inl rfl) _) (fun e=>RR.out.np e.symm) (fun e=>RR.out.ng e.symm)).upd ((aH.refl (fun b=>b=lp) _).setCell (.inl rfl) _) (fun e=>RR.out.np e.symm) (fun e=>RR.out.ng e.symm),hl,RR.out.np,RR.out.ng⟩
        case measure=>simp [intOf];omega
      · rw [if_neg h8,if_neg h8] at ST
        have hp:dB ⟨Lj,hd,n⟩ x=(⟨Lj,hd,n⟩,3):=by unfold dB;rw [if_neg hx0,if_neg h8]
        have hE:E=(⟨Lj,hd,n⟩,3):=by rw [←HE.out,HHL.out (by rw [hp];show (3:Int)≠0;decide),hp]
        subst hE;clear hp hx0 h8;go_wp2_with fail
        refine ST.out.mono ?_;rintro e w6 ⟨rfl,Zi,Xb⟩;have R6:=Lib.hid Zi;have L6:=Lib.hid (RR.out.G_.upd Xb RR.out.ng);have W6:=Lib.hid (WW.out.Wn Xb (fun _ h=>h));clear Zi Xb;go_wp2;go_ret;exact ⟨rfl,⟨R6.out,L6.out,RR.out.np,RR.out.ng⟩,W6.out⟩
  · obtain rfl:j=k:=by omega
    have t1:decide ((j:Int)<(j:Int))=false:=decide_eq_false (by omega);have htk:l.take j=l:=by rw [HK.out,List.take_length]
    rw [htk,HE.out] at hz hr;have RR:=Lib.hid hr;have WW:=Lib.hid hw;have HZ:=Lib.hid hz;clear hr hw htk hz;go_wp2;go_ret;rw [HZ.out];exact ⟨rfl,RR.out,WW.out⟩
theorem TN (w:World) {p g lp o:Nat} {s:LS} (R:PL w p g lp o s) (hh:s.h≤18446744073709551615) (hn:0≤s.n∧s.n≤1000000000):
 Calls Tryz.prog 148 #[.pointer (some ⟨lp,o,none⟩), .pointer (some ⟨p,0,none⟩)] w fun e w'=>e= .returned (.tuple #[.int .u64 ((xU s).2.1:Int), .int .i64 (xU s).2.2])∧PL w' p g lp o (xU s).1∧dA (fun _=>False) (qZ lp o) w w':=by
 obtain ⟨L,hd,n⟩:=s;simp only [] at hh hn;obtain ⟨n0,n1⟩:=hn;have c0:w.cell? ⟨lp,o,none⟩=some (.int .u64 (hd:Int)):=R.G_.c0;have f0:w.frozen? ⟨lp,o,none⟩=false:=R.G_.frozen _;have c1:w.cell? ⟨lp,o+1,none⟩=some (.int .i64 n):=R.G_.c1;have f1:w.frozen? ⟨lp,o+1,none⟩=false:=R.G_.frozen _;have HL:=WS R.mem hd;have RR:=Lib.hid R;simp only [] at HL;clear R;by_cases hz:n=0
 · subst hz
   have e:xU ⟨L,hd,0⟩=(⟨L,hd,0⟩,0,5):=by unfold xU;rw [if_pos rfl]
   rw [e];clear e HL;go_enter Tryz.func148,Tryz.ntmps148
   go_wp2
   go_ret2
   exact ⟨rfl,RR.out,dA.refl _ _ _⟩
 · have t1:((n:Int)==0)=false:=by rw [beq_eq_false_iff_ne];exact hz
   by_cases h8:hd+8≤L.length
   · have e:xU ⟨L,hd,n⟩=(⟨L,dX L hd,n-1⟩,hd,0):=by unfold xU;rw [if_neg hz,if_pos h8]
     rw [e];have HC:=Lib.hid (HL.1 h8);obtain ⟨k,hk⟩: ∃k,dX L hd=k:=⟨_,rfl⟩;rw [hk] at HC⊢;clear e HL h8 hk hz;go_enter Tryz.func148,Tryz.ntmps148
     go_wp2_with (go_at_call 171;refine HC.out.mono ?_;rintro e w1 ⟨rfl,rfl⟩)
     go_ret2
     have hl:=(RR.out.G_.head k).count (n-1);exact ⟨rfl,⟨(RR.out.mem.upd ((aH.refl (fun b=>b=lp) w).setCell (.inl rfl) _) (fun e=>RR.out.np e.symm) (fun e=>RR.out.ng e.symm)).upd ((aH.refl (fun b=>b=lp) _).setCell (.inl rfl) _) (fun e=>RR.out.np e.symm) (fun e=>RR.out.ng e.symm),hl,RR.out.np,RR.out.ng⟩,((dA.refl _ _ w).setCell ⟨rfl,Or.inl rfl⟩ _).setCell ⟨rfl,Or.inr rfl⟩ _⟩
   · have e:xU ⟨L,hd,n⟩=(⟨L,hd,n⟩,0,3):=by unfold xU;rw [if_neg hz,if_neg h8]
     rw [e];have HC:=Lib.hid (HL.2 h8);clear e HL h8 hz;go_enter Tryz.func148,Tryz.ntmps148
     go_wp2_with (go_at_call 171;refine HC.out.mono ?_;rintro e w1 ⟨rfl,rfl⟩)
     go_ret2
     exact ⟨rfl,RR.out,dA.refl _ _ _⟩
end Go.Proofs.YtpibbcnkgdmcbaaGreatDoor
namespace Go.Proofs.YtpibbcnkgdmcbaaGreatDoor
open Go.RowKit aC
theorem Qe:(Tryz.prog.info? 138).map (·.size)=some 2:=by kernel_rfl
theorem Lr {w:World} {lp o op o2:Nat} {lh oh:Nat} {ln on:Int} (l:dD w lp o lh ln) (k:dD w op o2 oh on) (hne: ¬(op=lp∧o2=o)):
 (binOp .eql 232 (.pointer (some ⟨op,o2,none⟩)) (.pointer (some ⟨lp,o,none⟩))).run Tryz.prog w= .ok (.bool false) w:=by
 obtain ⟨t,cs,b,_⟩:=l;obtain ⟨t2,cs2,b2,_⟩:=k;have hi:=Qe;cases hj:Tryz.prog.info? 138 with
 |none=>rw [hj] at hi;cases hi
 |some j=>
  rw [hj] at hi;refine run_eql_ptr_other w Tryz.underlying232 hj (by simp at hi;omega) (fun e=>hne ?_) b2 b;injection e with e1 e2 _
  exact ⟨e1,e2⟩
theorem A_ {S:Nat→Prop} {w w':World} (h:Below w.heap.size w w'):aH S w w':=(ak h).mono fun _ x=>x.elim
theorem Qc (w:World) {p g lp o op o2:Nat} {L:List Nat} {lh oh:Nat} {ln on:Int} (R:bC w p g L) (l:dD w lp o lh ln) (k:dD w op o2 oh on) (nq:lp≠p∧op≠p) (nh:lp≠g∧op≠g) (ha:RY lp o op o2) (hlh:bM lh) (hoh:bM oh) (hln:aat ln) (hon:aat on):
 Calls Tryz.prog 175 #[.pointer (some ⟨lp,o,none⟩), .pointer (some ⟨p,0,none⟩), .pointer (some ⟨op,o2,none⟩)] w fun e w'=>e= .returned (.int .i64 (if (r_ L lh ln oh on).isSome then 0 else 3))∧
  bC w' p g (yB L lh oh ln on).1.L∧dD w' lp o (yB L lh oh ln on).1.h (yB L lh oh ln on).1.n∧dD w' op o2 (yB L lh oh ln on).2.h (yB L lh oh ln on).2.n∧dA (fun b=>b=g) (fun b i=>qZ lp o b i∨qZ op o2 b i) w w':=by
 have HR:=Lib.hid (Lc w R k hoh hon);obtain ⟨ap1,ap2,ap3,ap4⟩:=Aside.at ha;have hne: ¬(op=lp∧o2=o):=by rintro ⟨rfl,rfl⟩;unfold RY at ha;omega
 have hpe:=Lr l k hne;have hll:=l.lt;have hkl:=k.lt;have R0:=Lib.hid R;have L0:=Lib.hid l;have K0:=Lib.hid k;have NQ:=Lib.hid nq;have NH:=Lib.hid nh;have A1:=Lib.hid ap1;have A2:=Lib.hid ap2;have A3:=Lib.hid ap3;have A4:=Lib.hid ap4;obtain ⟨ln0,ln1⟩:=hln;obtain ⟨on0,on1⟩:=hon;unfold yB;cases hal:tu ⟨L,oh,on⟩ with
 |none=>
  rw [Ho hal];rw [hal] at HR;simp only [Option.getD_none,Option.isSome_none] at HR⊢;clear hal R l k nq nh ha ap1 ap2 ap3 ap4;go_enter Tryz.func175,Tryz.ntmps175
  go_wp2_with fail
  refine HR.out.mono ?_;rintro e w1 ⟨rfl,hb⟩;have R1:=Lib.hid (R0.out.upd (ak hb) id id);have L1:=Lib.hid (L0.out.upd (ak hb) id);have K1:=Lib.hid (K0.out.upd (ak hb) id);have W1:=Lib.hid (dA.kR (S:=fun b=>b=g) (C:=fun b i=>qZ lp o b i∨qZ op o2 b i) hb);clear hb;go_wp2;go_ret;exact ⟨rfl,R1.out,L1.out,K1.out,W1.out⟩
 |some r=>
  rw [hal] at HR;simp only [Option.isSome_some] at HR;by_cases hr:r= []
  · subst hr
    rw [L9 hal];simp only [Option.getD_some,Option.isSome_some,if_true];have abv:on=0:=by
     have h1:=tq (s:=⟨L,oh,on⟩) on0;rw [hal] at h1;cases hc:bT L oh on with
     |none=>simp only [hc] at h1;cases h1
     |some q=>
      simp only [hc] at h1;split at h1
      · rename_i hq
        injection h1 with h1
        subst h1;simp at hq;omega
      · cases h1
    subst abv;clear hal R l k nq nh ha ap1 ap2 ap3 ap4;go_enter Tryz.func175,Tryz.ntmps175
    go_wp2_with fail
    refine HR.out.mono ?_;rintro e w1 ⟨rfl,hb⟩;have R1:=Lib.hid (R0.out.upd (ak hb) id id);have L1:=Lib.hid (L0.out.upd (ak hb) id);have k1:=K0.out.upd (ak hb) id;have W1:=Lib.hid (dA.kR (S:=fun b=>b=g) (C:=fun b i=>qZ lp o b i∨qZ op o2 b i) hb);have K1:=Lib.hid k1;have d0:w1.cell? ⟨op,o2,none⟩=some (.int .u64 (oh:Int)):=k1.c0;have d1:w1.cell? ⟨op,o2+1,none⟩=some (.int .i64 0):=k1.c1;have g0:w1.frozen? ⟨op,o2,none⟩=false:=k1.frozen _;have g1:w1.frozen? ⟨op,o2+1,none⟩=false:=k1.frozen _;clear hb k1;go_wp2;go_ret;refine ⟨rfl,(R1.out.upd (fK _) (fun e=>NQ.out.2 e.symm) (fun e=>NH.out.2 e.symm)).upd (fK _) (fun e=>NQ.out.2 e.symm) (fun e=>NH.out.2 e.symm),(L1.out.keep (wY (lp:=op) (o:=o2) _) id A3.out A4.out).keep (tO (lp:=op) (o:=o2) _) id A3.out A4.out,(K1.out.head 0).count 0,(W1.out.setCell (Or.inr ⟨rfl,Or.inl rfl⟩) _).setCell (Or.inr ⟨rfl,Or.inr rfl⟩) _⟩
  · obtain ⟨c,z,hc,hz,hlast,Zb,Xg⟩:=Nj hal on0 hr
    simp only [] at Zb Xg;rw [yA hal hr,hlast];simp only [Option.getD_some,Option.isSome_some,if_true];rw [hc] at Xg;have hzb:z≤18446744073709551615:=by have:=R.big;omega
    have hlz:oJ (gD L (lX L on) oh)=z:=by rw [←hlast];unfold oJ;rw [←all_some on0 hal]
    have HZ8:=Lib.hid Zb;have HLS:=Lib.hid (fun (w':World) (hb:Below w.heap.size w w')=>P_ p g op o2 L oh on w' (R.upd (ak hb) id id) (k.upd (ak hb) id) hoh (by omega) (by omega));rw [hlz] at HLS;have t1:decide ((0:Int)<on)=true:=decide_eq_true (by omega);have ST:=Lib.hid (fun (w':World) (r:bC w' p g L)=>Ov w' r z lh hzb hlh);rw [if_pos Zb] at ST;rw [if_pos Zb] at ST;clear hal R l k nq nh ha ap1 ap2 ap3 ap4 hr hc hz hlast Zb Xg hlz;go_enter Tryz.func175,Tryz.ntmps175
    go_wp2_with fail
    refine HR.out.mono ?_;rintro e w1 ⟨rfl,hb⟩;have l1:=L0.out.upd (ak hb) id;have k1:=K0.out.upd (ak hb) id;have B1:=Lib.hid hb;have c0:w1.cell? ⟨lp,o,none⟩=some (.int .u64 (lh:Int)):=l1.c0;have d1:w1.cell? ⟨op,o2+1,none⟩=some (.int .i64 on):=k1.c1;have hlw:lp<w1.heap.size:=l1.lt;clear hb l1 k1;go_wp2_with fail
    go_region_held3 (fun w'=>w'.cell? ⟨lp,o,none⟩=some (.int .u64 (lh:Int))) (first|go_keep|exact c0)
     (first
      |(go_at_call 186;(first|(with_reducible refine (HLS.out _ (B1.out.drew)).mono ?_));rintro e w4 ⟨rfl,hb4⟩;have B4:=Lib.hid (ah B1.out.drew B1.out.drew.size hb4);have c0:w4.cell? ⟨lp,o,none⟩=some (.int .u64 (lh:Int)):=(hb4.cell (p:=⟨lp,o,none⟩) hlw).trans c0;clear hb4)
      |(go_at_call 133;(first|(with_reducible refine (ST.out _ (R0.out.upd (ak B4.out) id id)).mono ?_));rintro e w5 ⟨rfl,hr5,hu5⟩;have R5:=Lib.hid hr5;have U5:=Lib.hid ((A_ B4.out).trans hu5);have c0:w5.cell? ⟨lp,o,none⟩=some (.int .u64 (lh:Int)):=(L0.out.upd ((A_ B4.out).trans hu5) NH.out.1).c0;clear hr5 hu5))
    have L5:=Lib.hid (L0.out.upd U5.out NH.out.1);have K5:=Lib.hid (K0.out.upd U5.out NH.out.2);have W5:=Lib.hid (dA.JL (C:=fun b i=>qZ lp o b i∨qZ op o2 b i) U5.out);clear c0 d1 hlw hpe t1;have c0:w5.cell? ⟨lp,o,none⟩=some (.int .u64 (lh:Int)):=L5.out.c0;have f0:w5.frozen? ⟨lp,o,none⟩=false:=L5.out.frozen _;have d0:w5.cell? ⟨op,o2,none⟩=some (.int .u64 (oh:Int)):=K5.out.c0;have L6:=Lib.hid (L5.out.head oh);have K6:=Lib.hid (K5.out.keep (wY (lp:=lp) (o:=o) (.int .u64 (oh:Int))) id A1.out A2.out);have R6:=Lib.hid (R5.out.upd (fK (lp:=lp) (i:=o) (.int .u64 (oh:Int))) (fun e=>NQ.out.1 e.symm) (fun e=>NH.out.1 e.symm));have W6:=Lib.hid (W5.out.setCell (b:=lp) (i:=o) (Or.inl ⟨rfl,Or.inl rfl⟩) (.int .u64 (oh:Int)));go_wp2_with fail
    obtain ⟨w6,Au⟩: ∃x,w5.setCell ⟨lp,o,none⟩ (.int .u64 (oh:Int))=x:=⟨_,rfl⟩;rw [Au] at L6 K6 R6 W6⊢;clear Au c0 f0 d0;have c1:w6.cell? ⟨lp,o+1,none⟩=some (.int .i64 ln):=L6.out.c1;have f1:w6.frozen? ⟨lp,o+1,none⟩=false:=L6.out.frozen _;have d1:w6.cell? ⟨op,o2+1,none⟩=some (.int .i64 on):=K6.out.c1;have wr3:IntKind.i64.wrap (ln+on)=ln+on:=IntWalk.i64_in _ ⟨by omega,by omega⟩
    go_region
    have L7:=Lib.hid ((L6.out.count (ln+on)).upd (aH.refl (fun _=>False) _).drew id);have K7:=Lib.hid ((K6.out.keep (tO (lp:=lp) (o:=o) (.int .i64 (ln+on))) id A1.out A2.out).upd (aH.refl (fun _=>False) _).drew id);have R7:=Lib.hid ((R6.out.upd (fK (lp:=lp) (i:=o+1) (.int .i64 (ln+on))) (fun e=>NQ.out.1 e.symm) (fun e=>NH.out.1 e.symm)).upd (aH.refl (fun _=>False) _).drew id id);have W7:=Lib.hid ((W6.out.setCell (b:=lp) (i:=o+1) (Or.inl ⟨rfl,Or.inr rfl⟩) (.int .i64 (ln+on))).Wn (aH.refl (fun _=>False) _).drew (fun _ h=>h.elim));obtain ⟨w7,hw7⟩: ∃x,(w6.setCell ⟨lp,o+1,none⟩ (.int .i64 (ln+on))).drew=x:=⟨_,rfl⟩;rw [hw7] at L7 K7 R7 W7⊢;clear hw7 c1 f1 d1 wr3;have d0:w7.cell? ⟨op,o2,none⟩=some (.int .u64 (oh:Int)):=K7.out.c0;have d1:w7.cell? ⟨op,o2+1,none⟩=some (.int .i64 on):=K7.out.c1;have g0:w7.frozen? ⟨op,o2,none⟩=false:=K7.out.frozen _;have g1:w7.frozen? ⟨op,o2+1,none⟩=false:=K7.out.frozen _;go_wp2;go_ret;exact ⟨rfl,(R7.out.upd (fK _) (fun e=>NQ.out.2 e.symm) (fun e=>NH.out.2 e.symm)).upd (fK _) (fun e=>NQ.out.2 e.symm) (fun e=>NH.out.2 e.symm),(L7.out.keep (wY (lp:=op) (o:=o2) _) id A3.out A4.out).keep (tO (lp:=op) (o:=o2) _) id A3.out A4.out,(K7.out.head 0).count 0,(W7.out.setCell (Or.inr ⟨rfl,Or.inl rfl⟩) _).setCell (Or.inr ⟨rfl,Or.inr rfl⟩) _⟩
theorem Pf (w:World) (p:Nat):Calls Tryz.prog 156 #[.pointer none, .pointer (some ⟨p,0,none⟩), .slice none 0 0] w fun e w'=>e= .returned (.int .i64 1)∧Below w.heap.size w w':=by
 go_enter Tryz.func156,Tryz.ntmps156
 go_wp2;go_ret;exact ⟨rfl,Below.refl _ _⟩
end Go.Proofs.YtpibbcnkgdmcbaaGreatDoor
