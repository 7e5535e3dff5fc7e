/- Lists12: texts of layers below, joined (ListCl ListG ListIt ListCh ListLs ListRt ListAl ListPp ListJn). -/
import Derived.Test.YtippfeplogkaiaaGreatDoorElems
import Derived.Test.YtippfeplogkaiaaGreatDoorSmalls12
import Derived.Test.YtippfeplogkaiaaGreatDoorMaths12
import Derived.Test.YtippfeplogkaiaaGreatDoorMems12
import Derived.Test.YtippfeplogkaiaaGreatDoorPlaces
import Derived.RangeFuncNested
import Derived.RangeFuncBound
import Derived.RangeFuncCalls
import Derived.RangeFuncLeaves
import Derived.RangeFuncBox
import Derived.Shelf.Abstract
import Derived.Shelf.RegionOpen
import Derived.WalkKit
import Derived.OwnWalkIn
import Derived.TacticsInMore
import Derived.LoopNIn
import Derived.LoopIn
import Derived.Laws.Small
import Derived.Deep.RegionHeld3
import Derived.IntWalk
import Derived.LaidEqlPtr
namespace Go.Proofs.YtippfeplogkaiaaGreatDoor
open Go.RowKit ListMath
set_option linter.unusedVariables false
def lsC (h:Nat) (n:Int):Array Value:= #[.int .u64 (h:Int), .int .i64 n]
abbrev CntB (n:Int):Prop:=0≤n∧n≤1000000000
structure One (w:World) (p g lp:Nat) (s:LS) (w':World):Prop where
  mem:IsMem w' p g s.L
  lst:Blk w' lp 254 (lsC s.h s.n)
  fp:w.heap.size≤p
  fg:w.heap.size≤g
  fl:w.heap.size≤lp
  below:Below w.heap.size w w'
theorem One.turn {w w' w2:World} {p g lp:Nat} {s t:LS} {S:Nat→Prop} (h:One w p g lp s w') (hm:IsMem w2 p g t.L) (hl:Blk w2 lp 254 (lsC t.h t.n)) (u:Upd S w' w2) (hS: ∀b,S b→b=g∨b=lp):One w p g lp t w2:=
  ⟨hm,hl,h.fp,h.fg,h.fl,h.below.trans (u.below (fun b hb=>by rcases hS b hb with rfl|rfl;exact h.fg;exact h.fl) h.below.size)⟩
theorem One.grew {w w' w2:World} {p g lp:Nat} {s:LS} (h:One w p g lp s w') (hb:Below w'.heap.size w' w2):One w p g lp s w2:=
  ⟨h.mem.upd (updFalse_of hb) id id,h.lst.grew hb,h.fp,h.fg,h.fl,below_then h.below h.below.size hb⟩
theorem One.alloc {w w':World} {p g lp:Nat} {s:LS} (h:One w p g lp s w') (o:Obj):One w p g lp s (w'.alloc o):=h.grew ((Below.refl _ w').alloc (Nat.le_refl _) o)
end Go.Proofs.YtippfeplogkaiaaGreatDoor
namespace Go.Proofs.YtippfeplogkaiaaGreatDoor
open Go.RowKit ListMath
set_option linter.unusedVariables false
structure PL (w:World) (p g lp o:Nat) (s:LS):Prop where
  mem:IsMem w p g s.L
  lst:LCell w lp o s.h s.n
  np:lp≠p
  ng:lp≠g
def joinG (L:List Nat) (lh oh:Nat) (ln on:Int):LS×LS:=(joinN L lh ln oh on).getD (⟨L,lh,ln⟩,⟨L,oh,on⟩)
def Apart2 (lp o op o2:Nat):Prop:=lp≠op∨o+2≤o2∨o2+2≤o
end Go.Proofs.YtippfeplogkaiaaGreatDoor
namespace Go.Proofs.YtippfeplogkaiaaGreatDoor
open Go.RowKit Go.Shelf ListMath
set_option linter.unusedVariables false
attribute [local go_sem] Oper.semAt_some
def Keeps (K:Nat→Prop) (W W':World):Prop:= ∀k,K k→W'.heap[k]? =W.heap[k]?
theorem Keeps.refl (K:Nat→Prop) (W:World):Keeps K W W:=fun _ _=>rfl
theorem keeps_t {K:Nat→Prop} {A B C:World} (h:Keeps K A B) (k:Keeps K B C):Keeps K A C:=fun i hi=>(k i hi).trans (h i hi)
theorem keeps_b {K:Nat→Prop} {w:World} (hn: ∀k,K k→k<w.heap.size) (W:World) (l:Nat) (o o':Obj) (hl:w.heap.size≤l) (h:W.heap[l]? =some o) (_:o.isCells=false) (_:o.isWalk=false):Keeps K W (W.putObj l o'):=
  fun k hk=>(grownBy_putObj' W l o').block k (by have:=hn k hk;have:=(Array.getElem?_eq_some_iff.1 h).1;omega) (by have:=hn k hk;intro e;injection e;omega)
theorem Keeps.setCell {K:Nat→Prop} {W W':World} (h:Keeps K W W') {a:Addr} (ha: ¬K a.block) (v:Value):Keeps K W (W'.setCell a v):=
  keeps_t h fun k hk=>Below.heap_setCell _ _ _ _ (fun e=>ha (e▸hk))
theorem keeps_drew (K:Nat→Prop) (W:World):Keeps K W W.drew:=fun _ _=>rfl
theorem Keeps.upd {K S:Nat→Prop} {W W' W2:World} (h:Keeps K W W') (u:Upd S W' W2) (hk: ∀k,K k→k<W'.heap.size∧ ¬S k):Keeps K W W2:=
  keeps_t h fun k hK=>u.block k (hk k hK).1 (hk k hK).2
theorem Keeps.cell {K:Nat→Prop} {W W':World} (h:Keeps K W W') {a:Addr} (ha:K a.block):W'.cell? a=W.cell? a:=World.cell?_of_block (h _ ha)
def K3 (p g b:Nat) (k:Nat):Prop:=k=p∨k=g∨k=b
theorem IsMem.kept {W W':World} {p g b:Nat} {L:List Nat} (h:IsMem W p g L) (k:Keeps (K3 p g b) W W'):IsMem W' p g L:=
  ⟨(k p (.inl rfl)).trans h.head,(k g (.inr (.inl rfl))).trans h.row,h.byt,h.big⟩
abbrev Lnk:Type:={x:Nat×Nat//x.1≤1048576∧x.2≤18446744073709551615}
abbrev lnkVals (x:Lnk):Array Value:= #[.int .u64 (x.1.1:Int), .int .u64 (x.1.2:Int)]
def AllCome (L:List Nat) (Z h0:Nat) (xs:List Lnk):Prop:=xs.map (·.1)=walkF L Z h0
def mostF (L:List Nat) (m:Int):Nat:=min m.toNat L.length
def ItRel (L:List Nat) (Z h0 p g b:Nat) (J:List Lnk→World→Prop) (W:World) (x i:Value) (wr:World):Prop:=
  ∃(pre:List Lnk) (k a:Nat),k≤Z∧pre.length=k∧a≤18446744073709551615∧x= .int .u64 (a:Int)∧i= .int .i64 (k:Int)∧pre.map (·.1)++walkF L (Z-k) a=walkF L Z h0∧J pre wr∧Keeps (K3 p g b) W wr
theorem linkAt_le' {L:List Nat} (h:MemMath.Byt L) {a:Nat} (h8:a+8≤L.length):linkAt L a≤18446744073709551615:=by
  have:=MemMath.val_lt (h.part a 8)
  rw [MemMath.length_part h8] at this
  unfold linkAt;omega
theorem grownBy_drew (w:World):w.grownBy w.drew none:=⟨rfl,rfl,rfl,Nat.le_refl _,fun _ _ _=>rfl⟩
theorem load8 {w:World} {p g:Nat} {L:List Nat} (h:IsMem w p g L) {a:Nat} (h8:a+8≤L.length):Calls Tryz.prog 273 #[.pointer (some ⟨p,0,none⟩), .int .u64 (a:Int), .int .i64 8] w fun e w'=>e= .returned (.tuple #[.int .u64 (linkAt L a:Int), .int .i64 0])∧w=w':=load_ok h a 8 (.inr (.inr (.inr rfl))) h8
theorem load8_out {w:World} {p g:Nat} {L:List Nat} (h:IsMem w p g L) {a:Nat} (h8: ¬a+8≤L.length):Calls Tryz.prog 273 #[.pointer (some ⟨p,0,none⟩), .int .u64 (a:Int), .int .i64 8] w fun e w'=>e= .returned (.tuple #[.int .u64 0, .int .i64 3])∧w=w':=load_out h a 8 (.inr (.inr (.inr rfl))) (by omega)
set_option maxRecDepth 100000 in
set_option maxHeartbeats 2000000 in
theorem blocks1_in (n:Nat) (hn:1≤n) (l bh bs b p g:Nat) (L:List Nat) (h0:Nat) (hh:h0≤18446744073709551615) (m:Int) (hm1: -9223372036854775808≤m) (hm2:m≤9223372036854775807) (J Jx:List Lnk→World→Prop) (W:World) (hJ:AbidesFrom W.heap.size J)
    (hY: ∀pre x W,J pre W→pre.length<1048576→YieldAt Fence.wide (n-1) Tryz.prog l (lnkVals x) W fun e W'=>
      (e= .returned (.bool true)∧J (pre++ [x]) W'∧Keeps (K3 p g b) W W')∨(e= .returned (.bool false)∧Jx (pre++ [x]) W'))
    (hbh:W.cell? ⟨bh,0,none⟩=some (.int .u64 (h0:Int))) (hbs:W.cell? ⟨bs,0,none⟩=some (.int .i64 m)) (hb:W.cell? ⟨b,0,none⟩=some (.pointer (some ⟨p,0,none⟩))) (hm:IsMem W p g L) (hJ0:J [] W):
    CallsIn Fence.wide n Tryz.prog 291 #[.func (.yield l) #[] #[], .pointer (some ⟨bh,0,none⟩), .pointer (some ⟨bs,0,none⟩), .pointer (some ⟨b,0,none⟩)] W fun e W'=>(∃v,e= .returned v)∧
      ((∃ys,AllCome L (mostF L m) h0 ys∧J ys W')∨(∃pre,True∧Jx pre W')):=by
  have hbig:=hm.big
  have HS:=Lib.hid (fun (w':World) (k:Keeps (K3 p g b) W w')=>size_any (hm.kept k))
  have hJ1:J [] W.drew:=hJ _ _ _ none hJ0 (grownBy_drew W) (fun r e=>by cases e)
  obtain ⟨N,hN⟩: ∃N,L.length=N:=⟨_,rfl⟩
  have HN:=Lib.hid hN
  obtain ⟨z,hz⟩: ∃z:Int,(if (N:Int)<m then (N:Int) else m)=z:=⟨_,rfl⟩
  have hzm:z.toNat=mostF L m:=by unfold mostF;rw [hN,←hz];split<;>omega
  rw [hN] at hbig HS
  have hzle:z≤(N:Int):=by rw [←hz];split<;>omega
  have hzge: -9223372036854775808≤z:=by rw [←hz];split<;>omega
  have hmin: ∀w,(Builtin.min_ #[3,3] 3 #[.int .i64 m, .int .i64 (N:Int)]).run Tryz.prog w= .ok (.int .i64 z) w:=fun w=>by rw [run_min_int2,hz]
  rw [←hzm]
  obtain ⟨Z,hZ⟩: ∃Z,z.toNat=Z:=⟨_,rfl⟩
  rw [hZ]
  have HZ:=Lib.hid hZ
  have hb64:Z≤1048576:=by omega
  have H:=Lib.hid hm;have H0:=Lib.hid hJ1;have HB:=Lib.hid hb;have HY:=Lib.hid hY
  have hwN:IntKind.i64.wrap (N:Int)=(N:Int):=IntWalk.i64_in _ ⟨by omega,by omega⟩
  clear hm hJ0 hJ1 hJ hY hN hzm hZ
  refine callsIn_of_wp Tryz.func291 rfl trivial ?_ rfl
  simp only [Tryz.ntmps291,List.size_toArray,List.length_cons,List.length_nil,Nat.reduceAdd,Nat.reduceSub,Array.replicate_succ,Array.replicate_zero,List.push_toArray,List.append_toArray,List.nil_append,List.cons_append]
  refine wpIn_wide.2 ?_
  go_wp2_with fail
  go_region_held3 (fun w'=>w'.cell? ⟨bs,0,none⟩=some (.int .i64 m)∧w'.cell? ⟨b,0,none⟩=some (.pointer (some ⟨p,0,none⟩))) (first|go_keep|exact ⟨hbs,hb⟩)
    (first
      |(go_at_call 171;with_reducible refine (HS.out _ (keeps_drew _ _)).mono ?_;rintro e w5 ⟨rfl,rfl⟩))
  clear hwN hz hmin hbh hbs hb
  rename_i Q1 K1 hK1 hHeld1
  clear hHeld1
  refine hK1 _ _ ?_
  clear hK1 K1
  refine wpIn_wide (n:=n).1 ?_
  gi_wp2
  gi_loopw [5,14] (fun x i wr=>ItRel L Z h0 p g b J W x i wr) (fun _ i _=>Z-(intOf i).toNat)
  case atStart=>exact ⟨[],0,h0,Nat.zero_le _,rfl,hh,rfl,rfl,rfl,H0.out,keeps_drew _ _⟩
  case round=>
    obtain ⟨pre,k,a,hk,hpk,ha,rfl,rfl,hx,hJ,hkp⟩:=hrel
    have hc3:wr.cell? ⟨b,0,none⟩=some (.pointer (some ⟨p,0,none⟩)):=(hkp.cell (a:=⟨b,0,none⟩) (.inr (.inr rfl))).trans HB.out
    have hm3:=H.out.kept hkp
    have HX:=Lib.hid hx;have HJ:=Lib.hid hJ;have HK:=Lib.hid hkp;have HP:=Lib.hid hpk;have M:=Lib.hid hm3
    clear hx hJ hkp hpk hm3
    by_cases hlt:(k:Int)<z
    · have t1 :decide ((k:Int)<z)=true:=decide_eq_true hlt
      have hkZ:k<Z:=by rw [←HZ.out];omega
      by_cases ha0:a=0
      · subst ha0
        have t2:(((0:Nat):Int)==0)=true:=by decide
        have hx:=HX.out
        rw [walkF_zero,List.append_nil] at hx
        have HA:=Lib.hid hx
        clear hx HX
        gi_wp2
        refine bodyPost_ret (results_none rfl _ _ _) rfl ?_
        exact ⟨⟨_,rfl⟩, .inl ⟨pre,HA.out,HJ.out⟩⟩
      · have t2:((a:Int)==0)=false:=by rw [beq_eq_false_iff_ne];omega
        by_cases h8:a+8≤L.length
        · obtain ⟨c,hc⟩: ∃c,linkAt L a=c:=⟨_,rfl⟩
          have hcb:c≤18446744073709551615:=by rw [←hc];exact linkAt_le' H.out.byt h8
          have hx:=HX.out
          rw [walkF_in (by omega) ha0 h8 hc] at hx
          have hld:=load8 M.out h8
          rw [hc] at hld
          have ha20:a≤1048576:=by have:=H.out.big;omega
          obtain ⟨x,hxx⟩: ∃x:Lnk,x=⟨(a,c),ha20,hcb⟩:=⟨_,rfl⟩
          obtain ⟨fn,tmps,assign,body,hy,hR⟩:=HY.out pre x wr HJ.out (by rw [HP.out];omega)
          have hx1:x.1.1=a:=by rw [hxx]
          have hx2:x.1.2=c:=by rw [hxx]
          have hx3:x.1=(a,c):=by rw [hxx]
          dsimp only [lnkVals] at hy
          rw [hx1,hx2] at hy
          have LD:=Lib.hid hld;have HX2:=Lib.hid hx;have X3:=Lib.hid hx3
          clear hxx hx1 hx2 hx3 hx hld hc h8 HX ha0
          gi_wp2_with (refine ⟨trivial, ?_⟩;gi_at_call 273;refine (callsIn_wide.2 LD.out).mono ?_;rintro e w' ⟨rfl,rfl⟩)
          refine hR.mono ?_
          rintro e W3 (⟨rfl,hJ3,hk3⟩|⟨rfl,hJx3⟩)
          · have H3:=Lib.hid (And.intro hJ3 hk3);clear hJ3 hk3
            gi_wp2
            go_roundw
            case rel=>exact ⟨pre++ [x],k+1,c,by omega,by rw [List.length_append,HP.out];rfl,hcb,rfl,by go_num,by
              rw [List.map_append,List.append_assoc]
              show pre.map (·.1)++([x.1]++_)=_
              rw [X3.out,←HX2.out,show Z-k-1=Z-(k+1) by omega];rfl,H3.out.1,keeps_t HK.out H3.out.2⟩
            case measure=>simp [intOf];omega
          · have H3:=Lib.hid hJx3;clear hJx3
            gi_wp2
            refine bodyPost_ret (results_none rfl _ _ _) rfl ?_
            exact ⟨⟨_,rfl⟩, .inr ⟨pre++ [x],trivial,H3.out⟩⟩
        · have hx:=HX.out
          rw [walkF_out h8,List.append_nil] at hx
          have HA:=Lib.hid hx
          have LD:=Lib.hid (load8_out M.out h8)
          clear hx HX h8 ha0
          gi_wp2_with (refine ⟨trivial, ?_⟩;gi_at_call 273;refine (callsIn_wide.2 LD.out).mono ?_;rintro e w' ⟨rfl,rfl⟩)
          refine ⟨fun _ h=>(by cases h), ?_⟩
          gi_wp2
          refine bodyPost_ret (results_none rfl _ _ _) rfl ?_
          exact ⟨⟨_,rfl⟩, .inl ⟨pre,HA.out,HJ.out⟩⟩
    · have t1:decide ((k:Int)<z)=false:=decide_eq_false hlt
      have hkZ:k=Z:=by have:=HZ.out;omega
      have hx:=HX.out
      rw [hkZ,Nat.sub_self] at hx
      have HA:Hid (pre.map (·.1)=walkF L Z h0):=Lib.hid (by rw [←hx];simp [walkF])
      clear hx HX hkZ
      gi_wp2
      go_end0
      exact ⟨⟨_,rfl⟩, .inl ⟨pre,HA.out,HJ.out⟩⟩
set_option maxHeartbeats 1000000 in
theorem blocks_in (n:Nat) (a:Option Addr) (h0 m:Int) (w:World):
    CallsIn Fence.wide n Tryz.prog 287 #[.pointer a, .int .u64 h0, .int .i64 m] w fun e w'=>e= .returned (.func (.func 291) #[] #[.pointer (some ⟨w.heap.size+1,0,none⟩), .pointer (some ⟨w.heap.size+1+1,0,none⟩), .pointer (some ⟨w.heap.size,0,none⟩)])∧
      w'=((w.alloc (.cells #[.pointer a] 105)).alloc (.cells #[.int .u64 h0] 36)).alloc (.cells #[.int .i64 m] 3):=by
  refine callsIn_wide.2 ?_
  go_enter Tryz.func287,Tryz.ntmps287
  go_wp2
  go_ret
  exact ⟨rfl,rfl⟩
theorem blocks_stops (n:Nat) (hn:1≤n) (bh bs b p g:Nat) (L:List Nat) (h0:Nat) (hh:h0≤18446744073709551615) (m:Int) (hm1: -9223372036854775808≤m) (hm2:m≤9223372036854775807) (w:World)
    (hbh:w.cell? ⟨bh,0,none⟩=some (.int .u64 (h0:Int))) (hbs:w.cell? ⟨bs,0,none⟩=some (.int .i64 m)) (hb:w.cell? ⟨b,0,none⟩=some (.pointer (some ⟨p,0,none⟩))) (hm:IsMem w p g L):
    SeqStopsK Fence.wide n Tryz.prog 291 #[.pointer (some ⟨bh,0,none⟩), .pointer (some ⟨bs,0,none⟩), .pointer (some ⟨b,0,none⟩)] lnkVals (Keeps (K3 p g b)) (AllCome L (mostF L m) h0) (fun _=>True) 1048576 w:=fun l J Jx W hW hJ _ hY hJ0=>
  blocks1_in n hn l bh bs b p g L h0 hh m hm1 hm2 J Jx W hJ hY ((hW.cell (p:=⟨bh,0,none⟩) (World.block_lt_of_cell? w _ hbh)).trans hbh) ((hW.cell (p:=⟨bs,0,none⟩) (World.block_lt_of_cell? w _ hbs)).trans hbs) ((hW.cell (p:=⟨b,0,none⟩) (World.block_lt_of_cell? w _ hb)).trans hb) (hm.upd (updFalse_of hW) id id) hJ0
end Go.Proofs.YtippfeplogkaiaaGreatDoor
namespace Go.Proofs.YtippfeplogkaiaaGreatDoor
open Go.RowKit Go.Shelf ListMath
set_option linter.unusedVariables false
attribute [local go_sem] Oper.semAt_some
theorem box3 (w:World) (c0 c1 c2:Array Value) (t0 t1 t2:TypeId): ∃W,((w.alloc (.cells c0 t0)).alloc (.cells c1 t1)).alloc (.cells c2 t2)=W∧Blk W w.heap.size t0 c0∧Blk W (w.heap.size+1) t1 c1∧Blk W (w.heap.size+1+1) t2 c2∧W.heap.size=w.heap.size+1+1+1∧Below w.heap.size w W:=by
  refine ⟨_,rfl,((Blk.new w _ _).alloc _).alloc _, ?_, ?_,by simp,(((Below.refl _ w).alloc (Nat.le_refl _) _).alloc (by simp) _).alloc (by simp;omega) _⟩
  · have:=(Blk.new (w.alloc (.cells c0 t0)) t1 c1).alloc (.cells c2 t2)
    rwa [World.size_alloc] at this
  · have:=Blk.new ((w.alloc (.cells c0 t0)).alloc (.cells c1 t1)) t2 c2
    rwa [World.size_alloc,World.size_alloc] at this
def prs (pre:List Lnk):List (Nat×Nat):=pre.map (·.1)
theorem prs_snoc (pre:List Lnk) (x:Lnk):prs (pre++ [x])=prs pre++ [x.1]:=by unfold prs;rw [List.map_append];rfl
theorem chain_come {L:List Nat} {m:Int} {h:Nat} {xs:List Lnk} (e:AllCome L (mostF L m) h xs):chainN L h m=if endF h (prs xs)=0 then some ((prs xs).map (·.1)) else none:=by
  have:=rowF_walk L (mostF L m) h
  rw [←e] at this
  exact this
def u64C (x:Nat):Array Value:= #[.int .u64 (x:Int)]
def ChIs (w:World) (h:Nat) (pre:List Lnk) (W:World):Prop:=
  (Blk W w.heap.size 254 (lsC 0 0)∧Blk W (w.heap.size+1) 254 (lsC h (pre.length:Int))∧Blk W (w.heap.size+1+1) 36 (u64C (endF h (prs pre))))∧Below w.heap.size w W
theorem chIs_own {w:World} {B:Nat} (hB:w.heap.size≤B) (h:Nat):OwnFrom B (ChIs w h):=
  OwnFrom.and (Own.from (own_and (blk_own _ _ _) (own_and (blk_own _ _ _) (blk_own _ _ _))) _) (ownFrom_below (Nat.le_refl _) hB)
set_option maxRecDepth 100000 in
set_option maxHeartbeats 2000000 in
theorem chain_in (p g:Nat) (L:List Nat) (h:Nat) (m:Int) (w:World) (hm:IsMem w p g L) (hh:h≤18446744073709551615) (hm1: -9223372036854775808≤m) (hm2:m≤9223372036854775807):
    CallsIn Fence.wide 5 Tryz.prog 276 #[.pointer (some ⟨p,0,none⟩), .int .u64 (h:Int), .int .i64 m] w fun e w'=>e= .returned (.tuple #[.agg (if (chainN L h m).isSome then lsC h (((chainN L h m).getD []).length:Int) else lsC 0 0), .int .i64 (if (chainN L h m).isSome then 0 else 3)])∧Below w.heap.size w w':=by
  have hp:=hm.head.lt
  have hg:=hm.row.lt
  have HM:=Lib.hid hm;clear hm
  obtain ⟨V,hV⟩: ∃V,Value.tuple #[.agg (if (chainN L h m).isSome then lsC h (((chainN L h m).getD []).length:Int) else lsC 0 0), .int .i64 (if (chainN L h m).isSome then 0 else 3)]=V:=⟨_,rfl⟩
  rw [hV]
  have HV:=Lib.hid hV
  clear hV
  refine callsIn_of_wp_marks Tryz.func276 rfl trivial ?_ rfl
  simp only [Tryz.ntmps276,List.size_toArray,List.length_cons,List.length_nil,Nat.reduceAdd,Nat.reduceSub,Array.replicate_succ,Array.replicate_zero,List.push_toArray,List.append_toArray,List.nil_append,List.cons_append]
  refine wpIn_wide.2 ?_
  go_wp2_with fail
  obtain ⟨W0,hW0,b6,b8,b9,s0,u0⟩:=box3 w #[.int .u64 0, .int .i64 0] #[.int .u64 (h:Int), .int .i64 0] #[.int .u64 (h:Int)] 254 254 36
  rw [hW0]
  have I0:ChIs w h [] W0:=⟨⟨b6,b8,b9⟩,u0⟩
  have M0:=Lib.hid (HM.out.upd (updFalse_of u0) id id)
  clear b6 b8 b9 u0 hW0
  have II:=Lib.hid I0;have S0:=Lib.hid s0
  clear I0 s0
  refine (callsIn_wide.1 (blocks_in 5 _ _ _ _)).mono ?_
  rintro e w' ⟨rfl,hw'⟩
  obtain ⟨W1,hW1,b10,b11,b12,s1,u1⟩:=box3 W0 #[.pointer (some ⟨p,0,none⟩)] #[.int .u64 (h:Int)] #[.int .i64 m] 105 36 3
  rw [hW1] at hw'
  subst W1
  have c1:=b10.cell 0;have c2:=b11.cell 0;have c3:=b12.cell 0
  have M1:=M0.out.upd (updFalse_of u1) id id
  have I1:ChIs w h [] w':=by
    obtain ⟨⟨h1,h2,h3⟩,h4⟩:=II.out
    exact ⟨⟨h1.grew u1,h2.grew u1,h3.grew u1⟩,below_then h4 h4.size u1⟩
  have II:=Lib.hid I1;have MM:=Lib.hid M1;have S1:=Lib.hid s1;have C1:=Lib.hid c1;have C2:=Lib.hid c2;have C3:=Lib.hid c3
  clear I1 M1 s1 c1 c2 c3 b10 b11 b12 u1 M0
  go_wp2_with fail
  refine wpIn_wide (n:=5).1 ?_
  have hsw:w'.heap.size=w.heap.size+6:=by rw [S1.out,S0.out]
  refine wpIn_rangeFunc_ownF rfl (by decide) (gf:=291) (lb:= #[.pointer (some ⟨W0.heap.size+1,0,none⟩), .pointer (some ⟨W0.heap.size+1+1,0,none⟩), .pointer (some ⟨W0.heap.size,0,none⟩)]) rfl trivial (enters_of Tryz.func291 (by kernel_rfl) rfl)
    (blocks_stops _ (by decide) (W0.heap.size+1) (W0.heap.size+1+1) W0.heap.size p g L h hh m hm1 hm2 w' C2.out C3.out C1.out MM.out) keeps_t (keeps_b (fun k hk=>by have:=S0.out;rcases hk with rfl|rfl|rfl<;>omega)) (Below.refl _ _) (fun _=>rfl)
    (ChIs w h) (fun _ _ _=>False) (chIs_own (by omega) h) (fun _ _ _ _ _ hs _ _=>hs) II.out
    (fun x=>{tmps:= #[.pointer (some ⟨p,0,none⟩), .int .u64 (h:Int), .int .i64 m,undef,undef,undef, .pointer (some ⟨w.heap.size,0,none⟩), .int .i64 0, .pointer (some ⟨w.heap.size+1,0,none⟩), .pointer (some ⟨w.heap.size+1+1,0,none⟩),undef, .int .u64 (x.1.2:Int), .pointer (some ⟨p,0,none⟩), .bool false,undef, .int .u64 (h:Int), .agg #[.int .u64 (h:Int), .int .i64 0], .int .u64 (h:Int), .pointer (some ⟨p,0,none⟩), .int .u64 (h:Int), .int .i64 m,
      .func (.func 291) #[] #[.pointer (some ⟨W0.heap.size+1,0,none⟩), .pointer (some ⟨W0.heap.size+1+1,0,none⟩), .pointer (some ⟨W0.heap.size,0,none⟩)], .int .u64 (x.1.1:Int), .int .u64 (x.1.2:Int),undef,undef,undef,undef,undef,undef,undef,undef,undef],defers:= []}) ?assign ?body ?done ?stop
  case assign=>
    intro l x W K hK
    gi_wp2
    exact hK
  case body=>
    rintro l pre x W ⟨⟨h6,h8,h9⟩,hB⟩ hlen
    have d0:W.cell? ⟨w.heap.size+1,1,none⟩=some (.int .i64 (pre.length:Int)):=h8.cell 1
    have f0:=h8.frozen 1
    have d1:W.cell? ⟨w.heap.size+1+1,0,none⟩=some (.int .u64 ((endF h (prs pre):Nat):Int)):=h9.cell 0
    have f1:=h9.frozen 0
    have hsn:=prs_snoc pre x
    have hl1:(pre++ [x]).length=pre.length+1:=by simp
    obtain ⟨E,hE⟩: ∃E,endF h (prs pre)=E:=⟨_,rfl⟩
    rw [hE] at d1
    obtain ⟨⟨xa,xk⟩,hxx⟩:=x
    have hxa:xa≤1048576:=hxx.1
    have hxk:xk≤18446744073709551615:=hxx.2
    obtain ⟨c,hc⟩: ∃c,pre.length=c:=⟨_,rfl⟩
    rw [hc] at d0 hlen
    have HB:=Lib.hid hB;have H6:=Lib.hid h6;have H8:=Lib.hid h8;have H9:=Lib.hid h9;have HE:=Lib.hid hE;have HS:=Lib.hid hsn;have HL:=Lib.hid hl1;have HC:=Lib.hid hc
    clear hB h6 h8 h9 hE hsn hl1 hc
    gi_wp2
    have n1: ¬K3 p g W0.heap.size (w.heap.size+1):=by have:=S0.out;rintro (h|h|h)<;>omega
    have n2: ¬K3 p g W0.heap.size (w.heap.size+1+1):=by have:=S0.out;rintro (h|h|h)<;>omega
    refine ⟨(KeepsOthers.setCell _ _ _).trans (KeepsOthers.setCell _ _ _),((Keeps.refl _ _).setCell n1 _).setCell n2 _,⟨?_, ?_, ?_⟩, ?_⟩
    · exact (H6.out.far (by simp only;omega) _).far (by simp only;omega) _
    · have h8:=(H8.out.put 1 (.int .i64 ((c:Int)+1))).far (p:=⟨w.heap.size+1+1,0,none⟩) (by simp only;omega) (.int .u64 (xk:Int))
      rw [HL.out,HC.out]
      exact h8
    · have h9:=(H9.out.far (p:=⟨w.heap.size+1,1,none⟩) (by simp only;omega) (.int .i64 ((c:Int)+1))).put 0 (.int .u64 (xk:Int))
      rw [HS.out,endF_snoc]
      exact h9
    · exact (HB.out.setCell (p:=⟨w.heap.size+1,1,none⟩) (by simp only;omega) _).setCell (p:=⟨w.heap.size+1+1,0,none⟩) (by simp only;omega) _
  case done=>
    rintro D xs W hD hS ⟨⟨h6,h8,h9⟩,hB⟩ hK
    have hcome:=chain_come hS
    have d1:W.cell? ⟨w.heap.size+1+1,0,none⟩=some (.int .u64 ((endF h (prs xs):Nat):Int)):=h9.cell 0
    have e0:W.cell? ⟨w.heap.size+1,0,none⟩=some (.int .u64 (h:Int)):=h8.cell 0
    have e1:W.cell? ⟨w.heap.size+1,1,none⟩=some (.int .i64 (xs.length:Int)):=h8.cell 1
    have k0:W.cell? ⟨w.heap.size,0,none⟩=some (.int .u64 0):=h6.cell 0
    have k1:W.cell? ⟨w.heap.size,1,none⟩=some (.int .i64 0):=h6.cell 1
    have f0:=h6.frozen 0
    have f1:=h6.frozen 1
    have hlen:(prs xs).length=xs.length:=by simp [prs]
    obtain ⟨E,hE⟩: ∃E,endF h (prs xs)=E:=⟨_,rfl⟩
    obtain ⟨c,hc⟩: ∃c,xs.length=c:=⟨_,rfl⟩
    obtain ⟨R,hR⟩: ∃R,chainN L h m=R:=⟨_,rfl⟩
    rw [hE] at d1 hcome
    rw [hc] at e1 hlen
    rw [hR] at hcome
    have HR:=Lib.hid hR
    have HB:=Lib.hid hB;have H6:=Lib.hid h6;have KK:=Lib.hid hK;have HLEN:=Lib.hid hlen
    have HD:=Lib.hid (show w.heap.size+1+1+1<D by omega)
    clear h8 h9 hE hc hR hS hB h6 hK hD hlen
    by_cases hE0:E=0
    · subst hE0
      rw [if_pos rfl] at hcome
      have t1:(((0:Nat):Int) !=0)=false:=by decide
      have HCM:=Lib.hid hcome
      clear hcome
      go_wp2
      have hK':=((KeepsOthers.setCell W ⟨w.heap.size,0,none⟩ (.int .u64 (h:Int))).trans (KeepsOthers.setCell _ ⟨w.heap.size,1,none⟩ (.int .i64 (c:Int)))).same D _ KK.out rfl
      have hb6:=((H6.out.put 0 (.int .u64 (h:Int))).put 1 (.int .i64 (c:Int))).putObj (.deferred none) hK' rfl
      have q0:=hb6.cell 0
      have q1:=hb6.cell 1
      have hsz:=HD.out
      refine ⟨by simp, .inl ⟨_,_,rfl,run_takeDeferred hK', ?_⟩⟩
      refine ⟨.tuple #[.agg #[.int .u64 (h:Int), .int .i64 (c:Int)], .int .i64 0],by simp [results,Tryz.f276,go_sem,lsC] at q0 q1⊢;simp [q0,q1], ?_, ?_⟩
      · rw [←HV.out,HR.out,HCM.out]
        simp [lsC,HLEN.out]
      · exact ((HB.out.setCell (p:=⟨w.heap.size,0,none⟩) (Nat.le_refl _) _).setCell (p:=⟨w.heap.size,1,none⟩) (Nat.le_refl _) _).trans (belowK_b (w:=w) (Nat.le_refl _) _ D _ _ (by omega) hK' rfl rfl)
    · rw [if_neg hE0] at hcome
      have t1:((E:Int) !=0)=true:=by rw [bne_iff_ne];omega
      have HCM:=Lib.hid hcome
      clear hcome hE0
      go_wp2
      have hK':=((KeepsOthers.setCell W ⟨w.heap.size,0,none⟩ (.int .u64 0)).trans (KeepsOthers.setCell _ ⟨w.heap.size,1,none⟩ (.int .i64 0))).same D _ KK.out rfl
      have hb6:=((H6.out.put 0 (.int .u64 0)).put 1 (.int .i64 0)).putObj (.deferred none) hK' rfl
      have q0:=hb6.cell 0
      have q1:=hb6.cell 1
      have hsz:=HD.out
      refine ⟨by simp, .inl ⟨_,_,rfl,run_takeDeferred hK', ?_⟩⟩
      refine ⟨.tuple #[.agg #[.int .u64 0, .int .i64 0], .int .i64 3],by simp [results,Tryz.f276,go_sem,lsC] at q0 q1⊢;simp [q0,q1], ?_, ?_⟩
      · rw [←HV.out,HR.out,HCM.out]
        simp [lsC]
      · exact ((HB.out.setCell (p:=⟨w.heap.size,0,none⟩) (Nat.le_refl _) _).setCell (p:=⟨w.heap.size,1,none⟩) (Nat.le_refl _) _).trans (belowK_b (w:=w) (Nat.le_refl _) _ D _ _ (by omega) hK' rfl rfl)
  case stop=>
    rintro D c pre W _ _ h _
    exact h.elim
end Go.Proofs.YtippfeplogkaiaaGreatDoor
namespace Go.Proofs.YtippfeplogkaiaaGreatDoor
open Go.RowKit Go.Shelf ListMath
set_option linter.unusedVariables false
attribute [local go_sem] Oper.semAt_some
structure Boxes (w:World) (p h:Nat) (m:Int) (w':World):Prop where
  b0:Blk w' w.heap.size 105 #[.pointer (some ⟨p,0,none⟩)]
  b1:Blk w' (w.heap.size+1) 36 #[.int .u64 (h:Int)]
  b2:Blk w' (w.heap.size+1+1) 3 #[.int .i64 m]
  size:w'.heap.size=w.heap.size+1+1+1
  below:Below w.heap.size w w'
theorem blocks_drew (p h:Nat) (m:Int) (w:World):Calls Tryz.prog 287 #[.pointer (some ⟨p,0,none⟩), .int .u64 (h:Int), .int .i64 m] w.drew fun e w'=>e= .returned (.func (.func 291) #[] #[.pointer (some ⟨w.heap.size+1,0,none⟩), .pointer (some ⟨w.heap.size+1+1,0,none⟩), .pointer (some ⟨w.heap.size,0,none⟩)])∧Boxes w p h m w':=by
  refine (callsIn_wide.1 (blocks_in 5 _ _ _ _)).mono ?_
  rintro e w' ⟨rfl,hw'⟩
  obtain ⟨W1,hW1,b10,b11,b12,s1,u1⟩:=box3 w.drew #[.pointer (some ⟨p,0,none⟩)] #[.int .u64 (h:Int)] #[.int .i64 m] 105 36 3
  rw [hW1] at hw'
  subst W1
  exact ⟨rfl,b10,b11,b12,s1,(Below.refl _ w).drew.trans u1⟩
def lastP (l:List (Nat×Nat)):Nat:=lastD (l.map (·.1))
theorem lastP_snoc (l:List (Nat×Nat)) (x:Nat×Nat):lastP (l++ [x])=x.1:=by unfold lastP lastD;simp
def LsIs (w:World) (pre:List Lnk) (W:World):Prop:=Blk W w.heap.size 36 (u64C (lastP (prs pre)))∧Below w.heap.size w W
theorem lsIs_own {w:World} {B:Nat} (hB:w.heap.size≤B):OwnFrom B (LsIs w):=OwnFrom.and (Own.from (blk_own _ _ _) _) (ownFrom_below (Nat.le_refl _) hB)
set_option maxRecDepth 100000 in
set_option maxHeartbeats 2000000 in
theorem last_in (p g lp o:Nat) (L:List Nat) (h:Nat) (m:Int) (w:World) (hm:IsMem w p g L) (hl:LCell w lp o h m) (hh:h≤18446744073709551615) (hm1: -9223372036854775808≤m) (hm2:m≤9223372036854775807):
    CallsIn Fence.wide 5 Tryz.prog 289 #[.pointer (some ⟨lp,o,none⟩), .pointer (some ⟨p,0,none⟩)] w fun e w'=>e= .returned (.int .u64 ((lastP (walkF L (mostF L m) h):Nat):Int))∧Below w.heap.size w w':=by
  have hp:=hm.head.lt
  have hg:=hm.row.lt
  have hlt:=hl.lt
  have l0:w.cell? ⟨lp,o,none⟩=some (.int .u64 (h:Int)):=hl.c0
  have l1:w.cell? ⟨lp,o+1,none⟩=some (.int .i64 m):=hl.c1
  have HM:=Lib.hid hm;clear hm hl
  refine callsIn_of_wp_marks Tryz.func289 rfl trivial ?_ rfl
  simp only [Tryz.ntmps289,List.size_toArray,List.length_cons,List.length_nil,Nat.reduceAdd,Nat.reduceSub,Array.replicate_succ,Array.replicate_zero,List.push_toArray,List.append_toArray,List.nil_append,List.cons_append]
  refine wpIn_wide.2 ?_
  go_wp2_with fail
  have b5:=Blk.new w 36 #[.int .u64 0]
  have u0:=(Below.refl w.heap.size w).alloc (Nat.le_refl _) (.cells #[.int .u64 0] 36)
  obtain ⟨W0,hW0⟩: ∃W,w.alloc (.cells #[.int .u64 0] 36)=W:=⟨_,rfl⟩
  have s0:W0.heap.size=w.heap.size+1:=by rw [←hW0];simp
  rw [hW0] at b5 u0⊢
  have c0:W0.cell? ⟨lp,o,none⟩=some (.int .u64 (h:Int)):=(u0.cell (p:=⟨lp,o,none⟩) hlt).trans l0
  have c1:W0.cell? ⟨lp,o+1,none⟩=some (.int .i64 m):=(u0.cell (p:=⟨lp,o+1,none⟩) hlt).trans l1
  have I0:LsIs w [] W0:=⟨b5,u0⟩
  have M0:=Lib.hid (HM.out.upd (updFalse_of u0) id id)
  have II:=Lib.hid I0;have S0:=Lib.hid s0
  clear hW0 b5 u0 I0 s0 l0 l1 hlt
  go_region_held3 (fun w'=>w'.cell? ⟨lp,o,none⟩=some (.int .u64 (h:Int))∧w'.cell? ⟨lp,o+1,none⟩=some (.int .i64 m)) (first|go_keep|exact ⟨c0,c1⟩)
    (first
      |(go_at_call 287;with_reducible refine (blocks_drew _ _ _ _).mono ?_;rintro e w' ⟨rfl,hbx⟩;have BX:=Lib.hid hbx;have c0:w'.cell? ⟨lp,o,none⟩=some (.int .u64 (h:Int)):=(hbx.below.cell (p:=⟨lp,o,none⟩) (World.block_lt_of_cell? W0 _ c0)).trans c0;have c1:w'.cell? ⟨lp,o+1,none⟩=some (.int .i64 m):=(hbx.below.cell (p:=⟨lp,o+1,none⟩) (World.block_lt_of_cell? W0 _ c1)).trans c1;clear hbx))
  have MM:=M0.out.upd (updFalse_of BX.out.below) id id
  have I1:LsIs w [] w':=⟨II.out.1.grew BX.out.below,below_then II.out.2 II.out.2.size BX.out.below⟩
  have hsw:w'.heap.size=w.heap.size+4:=by rw [BX.out.size,S0.out]
  have MH:=Lib.hid MM;have I1H:=Lib.hid I1
  clear MM I1 II M0 c0 c1
  go_wp2_with fail
  refine wpIn_wide (n:=5).1 ?_
  refine wpIn_rangeFunc_ownF rfl (by decide) (gf:=291) (lb:= #[.pointer (some ⟨W0.heap.size+1,0,none⟩), .pointer (some ⟨W0.heap.size+1+1,0,none⟩), .pointer (some ⟨W0.heap.size,0,none⟩)]) rfl trivial (enters_of Tryz.func291 (by kernel_rfl) rfl)
    (blocks_stops _ (by decide) (W0.heap.size+1) (W0.heap.size+1+1) W0.heap.size p g L h hh m hm1 hm2 w' (BX.out.b1.cell 0) (BX.out.b2.cell 0) (BX.out.b0.cell 0) MH.out) keeps_t (keeps_b (fun k hk=>by have:=S0.out;rcases hk with rfl|rfl|rfl<;>omega)) (Below.refl _ _) (fun _=>rfl)
    (LsIs w) (fun _ _ _=>False) (lsIs_own (by omega)) (fun _ _ _ _ _ hs _ _=>hs) I1H.out
    (fun x=>{tmps:= #[.pointer (some ⟨lp,o,none⟩), .pointer (some ⟨p,0,none⟩),undef,undef, .int .u64 0, .pointer (some ⟨w.heap.size,0,none⟩), .int .u64 (x.1.1:Int), .pointer (some ⟨p,0,none⟩), .pointer (some ⟨lp,o,none⟩), .pointer (some ⟨lp,o,none⟩), .pointer (some ⟨lp,o,none⟩), .int .u64 (h:Int), .pointer (some ⟨lp,o,none⟩), .pointer (some ⟨lp,o,none⟩), .pointer (some ⟨lp,o+1,none⟩), .int .i64 m,
      .func (.func 291) #[] #[.pointer (some ⟨W0.heap.size+1,0,none⟩), .pointer (some ⟨W0.heap.size+1+1,0,none⟩), .pointer (some ⟨W0.heap.size,0,none⟩)], .int .u64 (x.1.1:Int), .int .u64 (x.1.2:Int),undef,undef],defers:= []}) ?assign ?body ?done ?stop
  case assign=>
    intro l x W K hK
    gi_wp2
    exact hK
  case body=>
    rintro l pre x W ⟨h5,hB⟩ hlen
    have d1:W.cell? ⟨w.heap.size,0,none⟩=some (.int .u64 ((lastP (prs pre):Nat):Int)):=h5.cell 0
    have f1:=h5.frozen 0
    obtain ⟨E,hE⟩: ∃E,lastP (prs pre)=E:=⟨_,rfl⟩
    rw [hE] at d1
    have hsn:=prs_snoc pre x
    have HB:=Lib.hid hB;have H5:=Lib.hid h5;have HS:=Lib.hid hsn
    clear hB h5 hsn hE hlen
    gi_wp2
    have n1: ¬K3 p g W0.heap.size w.heap.size:=by have:=S0.out;rintro (h|h|h)<;>omega
    refine ⟨KeepsOthers.setCell _ _ _,(Keeps.refl _ _).setCell n1 _, ?_,HB.out.setCell (p:=⟨w.heap.size,0,none⟩) (Nat.le_refl _) _⟩
    rw [HS.out,lastP_snoc]
    exact H5.out.put 0 (.int .u64 (x.1.1:Int))
  case done=>
    rintro D xs W hD hS ⟨h5,hB⟩ hK
    have d1:W.cell? ⟨w.heap.size,0,none⟩=some (.int .u64 ((lastP (prs xs):Nat):Int)):=h5.cell 0
    have hE:prs xs=walkF L (mostF L m) h:=hS
    obtain ⟨R,hR⟩: ∃R,lastP (walkF L (mostF L m) h)=R:=⟨_,rfl⟩
    rw [hE,hR] at d1
    have HR:=Lib.hid hR;have HB:=Lib.hid hB;have KK:=Lib.hid hK
    have HD:=Lib.hid (show w.heap.size<D by omega)
    clear hR hB hK hE hS h5 hD
    go_wp2
    have hsz:=HD.out
    refine ⟨by simp, .inl ⟨_,_,rfl,run_takeDeferred KK.out, ?_⟩⟩
    refine ⟨_,results_tmp rfl _ _ _, ?_,HB.out.trans (belowK_b (w:=w) (Nat.le_refl _) W D _ _ (by omega) KK.out rfl rfl)⟩
    rw [HR.out];rfl
  case stop=>
    rintro D c pre W _ _ h _
    exact h.elim
theorem last_any (p g lp o:Nat) (L:List Nat) (h:Nat) (m:Int) (w:World) (hm:IsMem w p g L) (hl:LCell w lp o h m) (hh:h≤18446744073709551615) (hm1: -9223372036854775808≤m) (hm2:m≤9223372036854775807):
    Calls Tryz.prog 289 #[.pointer (some ⟨lp,o,none⟩), .pointer (some ⟨p,0,none⟩)] w fun e w'=>e= .returned (.int .u64 ((lastP (walkF L (mostF L m) h):Nat):Int))∧Below w.heap.size w w':=callsIn_wide.1 (last_in p g lp o L h m w hm hl hh hm1 hm2)
theorem chain_any (p g:Nat) (L:List Nat) (h:Nat) (m:Int) (w:World) (hm:IsMem w p g L) (hh:h≤18446744073709551615) (hm1: -9223372036854775808≤m) (hm2:m≤9223372036854775807):
    Calls Tryz.prog 276 #[.pointer (some ⟨p,0,none⟩), .int .u64 (h:Int), .int .i64 m] w fun e w'=>e= .returned (.tuple #[.agg (if (chainN L h m).isSome then lsC h (((chainN L h m).getD []).length:Int) else lsC 0 0), .int .i64 (if (chainN L h m).isSome then 0 else 3)])∧Below w.heap.size w w':=callsIn_wide.1 (chain_in p g L h m w hm hh hm1 hm2)
end Go.Proofs.YtippfeplogkaiaaGreatDoor
namespace Go.Proofs.YtippfeplogkaiaaGreatDoor
open Go.RowKit ListMath
set_option linter.unusedVariables false
theorem chain_drew (w:World) {p g lp o h:Nat} {L:List Nat} {n:Int} (hm:IsMem w p g L) (hl:LCell w lp o h n) (hh:h≤18446744073709551615) (hn:0≤n∧n≤1000000000) (V:Value) (hV:Value.tuple #[.agg (if (chainN L h n).isSome then lsC h (((chainN L h n).getD []).length:Int) else lsC 0 0), .int .i64 (if (chainN L h n).isSome then 0 else 3)]=V):
    (Calls Tryz.prog 276 #[.pointer (some ⟨p,0,none⟩), .int .u64 (h:Int), .int .i64 n] w.drew fun e w'=>e= .returned V∧Below w.heap.size w w'∧w'.cell? ⟨lp,o,none⟩=some (.int .u64 (h:Int))∧w'.cell? ⟨lp,o+1,none⟩=some (.int .i64 n))∧
    (Calls Tryz.prog 276 #[.pointer (some ⟨p,0,none⟩), .int .u64 (h:Int), .int .i64 n] (w.alloc (.cells #[.int .u64 0, .int .i64 0] 254)).drew fun e w'=>e= .returned V∧Blk w' w.heap.size 254 #[.int .u64 0, .int .i64 0]∧Below w.heap.size w w'∧w'.cell? ⟨lp,o,none⟩=some (.int .u64 (h:Int))∧w'.cell? ⟨lp,o+1,none⟩=some (.int .i64 n)):=by
  subst hV
  have hlt:=hl.lt
  have b1:Below w.heap.size w w.drew:=(Below.refl _ w).drew
  have b2:Below w.heap.size w (w.alloc (.cells #[.int .u64 0, .int .i64 0] 254)).drew:=((Below.refl _ w).alloc (Nat.le_refl _) _).drew
  constructor
  · refine (chain_any p g L h n w.drew (hm.upd (updFalse_of b1) id id) hh (by omega) (by omega)).mono ?_
    rintro e w' ⟨rfl,hb⟩
    have hb':=b1.trans hb
    exact ⟨rfl,hb',(hb'.cell (p:=⟨lp,o,none⟩) hlt).trans hl.c0,(hb'.cell (p:=⟨lp,o+1,none⟩) hlt).trans hl.c1⟩
  · refine (chain_any p g L h n _ (hm.upd (updFalse_of b2) id id) hh (by omega) (by omega)).mono ?_
    rintro e w' ⟨rfl,hb⟩
    have hb':=below_then b2 b2.size hb
    exact ⟨rfl,(Blk.new w _ _).drew.grew hb,hb',(hb'.cell (p:=⟨lp,o,none⟩) hlt).trans hl.c0,(hb'.cell (p:=⟨lp,o+1,none⟩) hlt).trans hl.c1⟩
set_option maxHeartbeats 4000000 in
theorem right_any (w:World) {p g lp o h:Nat} {L:List Nat} {n:Int} (hm:IsMem w p g L) (hl:LCell w lp o h n) (hh:h≤18446744073709551615) (hn:0≤n∧n≤1000000000):
    Calls Tryz.prog 288 #[.pointer (some ⟨lp,o,none⟩), .pointer (some ⟨p,0,none⟩)] w fun e w'=>e= .returned (.bool (allN ⟨L,h,n⟩).isSome)∧Below w.heap.size w w':=by
  have hlt:=hl.lt
  have c0:w.cell? ⟨lp,o,none⟩=some (.int .u64 (h:Int)):=hl.c0
  have c1:w.cell? ⟨lp,o+1,none⟩=some (.int .i64 n):=hl.c1
  obtain ⟨V,hV⟩: ∃V,Value.tuple #[.agg (if (chainN L h n).isSome then lsC h (((chainN L h n).getD []).length:Int) else lsC 0 0), .int .i64 (if (chainN L h n).isSome then 0 else 3)]=V:=⟨_,rfl⟩
  have hcd:=chain_drew w hm hl hh hn V hV
  have hne:w.heap.size≠lp:=Nat.ne_of_gt hlt
  have hne2:lp≠w.heap.size:=Nat.ne_of_lt hlt
  obtain ⟨n0,n1⟩:=hn
  have hal:=allN_row (s:=⟨L,h,n⟩) n0
  simp only [] at hal
  obtain ⟨A,hA⟩: ∃A,allN ⟨L,h,n⟩=A:=⟨_,rfl⟩
  obtain ⟨C,hC⟩: ∃C,chainN L h n=C:=⟨_,rfl⟩
  rw [hA,hC] at hal
  rw [hC] at hV
  rw [hA]
  clear hm hl hA hC
  cases C with
  | none=>
    have hA:A=none:=hal
    subst hA
    simp only [Option.isSome_none,Bool.false_eq_true,if_false,lsC] at hV
    subst hV
    have HC1:=Lib.hid hcd.1;have HC2:=Lib.hid hcd.2
    clear hcd hal
    simp only [Option.isSome_none]
    go_enter Tryz.func288,Tryz.ntmps288
    go_wp2_with fail
    go_region_held3 (fun w'=>w'.cell? ⟨lp,o,none⟩=some (.int .u64 (h:Int))∧w'.cell? ⟨lp,o+1,none⟩=some (.int .i64 n)) (first|go_keep|exact ⟨c0,c1⟩)
      (first
        |(go_at_call 276;(with_reducible refine HC1.out.mono ?_);rintro e w5 ⟨rfl,hb,k0,k1⟩;have B5:=Lib.hid hb;clear hb;have c0:=k0;have c1:=k1;clear k0 k1)
        |(go_at_call 276;(with_reducible refine HC2.out.mono ?_);rintro e w5 ⟨rfl,hk,hb,k0,k1⟩;have B5:=Lib.hid hb;have NB:=Lib.hid hk;have a0:w5.cell? ⟨w.heap.size,0,none⟩=some (.int .u64 0):=hk.cell 0;have a1:w5.cell? ⟨w.heap.size,1,none⟩=some (.int .i64 0):=hk.cell 1;have g0:w5.frozen? ⟨w.heap.size,0,none⟩=false:=hk.frozen 0;have g1:w5.frozen? ⟨w.heap.size,1,none⟩=false:=hk.frozen 1;clear hb hk;have c0:=k0;have c1:=k1;clear k0 k1))
    · go_wp2_with fail
      go_quiet (fail)
      go_wp2
      go_ret
      exact ⟨rfl,below_drewN (B5.out.alloc B5.out.size _) _⟩
    · go_wp2_with fail
      go_quiet (fail)
      go_wp2
      go_ret
      exact ⟨rfl,below_drewN ((B5.out.setCell (p:=⟨w.heap.size,0,none⟩) (Nat.le_refl _) _).setCell (p:=⟨w.heap.size,1,none⟩) (Nat.le_refl _) _) _⟩
  | some r=>
    simp only [Option.isSome_some,if_true,Option.getD_some,lsC] at hV
    subst hV
    simp only [] at hal
    have HC1:=Lib.hid hcd.1;have HC2:=Lib.hid hcd.2
    obtain ⟨k,hk⟩: ∃k,r.length=k:=⟨_,rfl⟩
    rw [hk] at HC1 HC2 hal
    clear hcd hk
    by_cases hkn:(k:Int)=n
    · subst hkn
      rw [if_pos (by omega)] at hal
      subst hal
      simp only [Option.isSome_some]
      go_enter Tryz.func288,Tryz.ntmps288
      go_wp2_with fail
      go_region_held3 (fun w'=>w'.cell? ⟨lp,o,none⟩=some (.int .u64 (h:Int))∧w'.cell? ⟨lp,o+1,none⟩=some (.int .i64 (k:Int))) (first|go_keep|exact ⟨c0,c1⟩)
        (first
          |(go_at_call 276;(with_reducible refine HC1.out.mono ?_);rintro e w5 ⟨rfl,hb,k0,k1⟩;have B5:=Lib.hid hb;clear hb;have c0:=k0;have c1:=k1;clear k0 k1)
          |(go_at_call 276;(with_reducible refine HC2.out.mono ?_);rintro e w5 ⟨rfl,hk,hb,k0,k1⟩;have B5:=Lib.hid hb;have NB:=Lib.hid hk;have a0:w5.cell? ⟨w.heap.size,0,none⟩=some (.int .u64 0):=hk.cell 0;have a1:w5.cell? ⟨w.heap.size,1,none⟩=some (.int .i64 0):=hk.cell 1;have g0:w5.frozen? ⟨w.heap.size,0,none⟩=false:=hk.frozen 0;have g1:w5.frozen? ⟨w.heap.size,1,none⟩=false:=hk.frozen 1;clear hb hk;have c0:=k0;have c1:=k1;clear k0 k1))
      · rename_i hHeld1
        have x0:(w5.alloc (.cells #[.int .u64 (h:Int), .int .i64 (k:Int)] 254)).cell? ⟨lp,o,none⟩=some (.int .u64 (h:Int)):=hHeld1.1
        have x1:(w5.alloc (.cells #[.int .u64 (h:Int), .int .i64 (k:Int)] 254)).cell? ⟨lp,o+1,none⟩=some (.int .i64 (k:Int)):=hHeld1.2
        have nb:=Blk.new w5 254 #[.int .u64 (h:Int), .int .i64 (k:Int)]
        have y0:(w5.alloc (.cells #[.int .u64 (h:Int), .int .i64 (k:Int)] 254)).cell? ⟨w5.heap.size,0,none⟩=some (.int .u64 (h:Int)):=nb.cell 0
        have y1:(w5.alloc (.cells #[.int .u64 (h:Int), .int .i64 (k:Int)] 254)).cell? ⟨w5.heap.size,1,none⟩=some (.int .i64 (k:Int)):=nb.cell 1
        have hB:Below w.heap.size w (w5.alloc (.cells #[.int .u64 (h:Int), .int .i64 (k:Int)] 254)):=B5.out.alloc B5.out.size _
        obtain ⟨b,hb⟩: ∃b,w5.heap.size=b:=⟨_,rfl⟩
        obtain ⟨w6,hw6⟩: ∃x,w5.alloc (.cells #[.int .u64 (h:Int), .int .i64 (k:Int)] 254)=x:=⟨_,rfl⟩
        rw [hb] at y0 y1⊢
        rw [hw6] at x0 x1 y0 y1 hB⊢
        have HB:=Lib.hid hB
        clear nb hb hw6 hB c0 c1 B5 hHeld1
        go_wp2_with fail
        go_quiet (fail)
        go_wp2
        go_ret
        exact ⟨rfl,below_drewN HB.out _⟩
      · rename_i hHeld1
        have x0:((w5.setCell ⟨w.heap.size,0,none⟩ (.int .u64 (h:Int))).setCell ⟨w.heap.size,1,none⟩ (.int .i64 (k:Int))).cell? ⟨lp,o,none⟩=some (.int .u64 (h:Int)):=hHeld1.1
        have x1:((w5.setCell ⟨w.heap.size,0,none⟩ (.int .u64 (h:Int))).setCell ⟨w.heap.size,1,none⟩ (.int .i64 (k:Int))).cell? ⟨lp,o+1,none⟩=some (.int .i64 (k:Int)):=hHeld1.2
        have nb:=(NB.out.put 0 (.int .u64 (h:Int))).put 1 (.int .i64 (k:Int))
        have y0:((w5.setCell ⟨w.heap.size,0,none⟩ (.int .u64 (h:Int))).setCell ⟨w.heap.size,1,none⟩ (.int .i64 (k:Int))).cell? ⟨w.heap.size,0,none⟩=some (.int .u64 (h:Int)):=nb.cell 0
        have y1:((w5.setCell ⟨w.heap.size,0,none⟩ (.int .u64 (h:Int))).setCell ⟨w.heap.size,1,none⟩ (.int .i64 (k:Int))).cell? ⟨w.heap.size,1,none⟩=some (.int .i64 (k:Int)):=nb.cell 1
        have hB:Below w.heap.size w ((w5.setCell ⟨w.heap.size,0,none⟩ (.int .u64 (h:Int))).setCell ⟨w.heap.size,1,none⟩ (.int .i64 (k:Int))):=(B5.out.setCell (p:=⟨w.heap.size,0,none⟩) (Nat.le_refl _) _).setCell (p:=⟨w.heap.size,1,none⟩) (Nat.le_refl _) _
        obtain ⟨b,hb⟩: ∃b,w.heap.size=b:=⟨_,rfl⟩
        obtain ⟨w6,hw6⟩: ∃x,(w5.setCell ⟨w.heap.size,0,none⟩ (.int .u64 (h:Int))).setCell ⟨w.heap.size,1,none⟩ (.int .i64 (k:Int))=x:=⟨_,rfl⟩
        rw [hw6] at x0 x1 y0 y1 hB⊢
        have HB:=Lib.hid hB
        clear nb hw6 hB c0 c1 B5 hHeld1 a0 a1 g0 g1 NB hb b
        go_wp2_with fail
        go_quiet (fail)
        go_wp2
        go_ret
        exact ⟨rfl,below_drewN HB.out _⟩
    · rw [if_neg (by omega)] at hal
      subst hal
      simp only [Option.isSome_none]
      go_enter Tryz.func288,Tryz.ntmps288
      go_wp2_with fail
      go_region_held3 (fun w'=>w'.cell? ⟨lp,o,none⟩=some (.int .u64 (h:Int))∧w'.cell? ⟨lp,o+1,none⟩=some (.int .i64 n)) (first|go_keep|exact ⟨c0,c1⟩)
        (first
          |(go_at_call 276;(with_reducible refine HC1.out.mono ?_);rintro e w5 ⟨rfl,hb,k0,k1⟩;have B5:=Lib.hid hb;clear hb;have c0:=k0;have c1:=k1;clear k0 k1)
          |(go_at_call 276;(with_reducible refine HC2.out.mono ?_);rintro e w5 ⟨rfl,hk,hb,k0,k1⟩;have B5:=Lib.hid hb;have NB:=Lib.hid hk;have a0:w5.cell? ⟨w.heap.size,0,none⟩=some (.int .u64 0):=hk.cell 0;have a1:w5.cell? ⟨w.heap.size,1,none⟩=some (.int .i64 0):=hk.cell 1;have g0:w5.frozen? ⟨w.heap.size,0,none⟩=false:=hk.frozen 0;have g1:w5.frozen? ⟨w.heap.size,1,none⟩=false:=hk.frozen 1;clear hb hk;have c0:=k0;have c1:=k1;clear k0 k1))
      · rename_i hHeld1
        have x0:(w5.alloc (.cells #[.int .u64 (h:Int), .int .i64 (k:Int)] 254)).cell? ⟨lp,o,none⟩=some (.int .u64 (h:Int)):=hHeld1.1
        have x1:(w5.alloc (.cells #[.int .u64 (h:Int), .int .i64 (k:Int)] 254)).cell? ⟨lp,o+1,none⟩=some (.int .i64 n):=hHeld1.2
        have nb:=Blk.new w5 254 #[.int .u64 (h:Int), .int .i64 (k:Int)]
        have y0:(w5.alloc (.cells #[.int .u64 (h:Int), .int .i64 (k:Int)] 254)).cell? ⟨w5.heap.size,0,none⟩=some (.int .u64 (h:Int)):=nb.cell 0
        have y1:(w5.alloc (.cells #[.int .u64 (h:Int), .int .i64 (k:Int)] 254)).cell? ⟨w5.heap.size,1,none⟩=some (.int .i64 (k:Int)):=nb.cell 1
        have hB:Below w.heap.size w (w5.alloc (.cells #[.int .u64 (h:Int), .int .i64 (k:Int)] 254)):=B5.out.alloc B5.out.size _
        obtain ⟨b,hb⟩: ∃b,w5.heap.size=b:=⟨_,rfl⟩
        obtain ⟨w6,hw6⟩: ∃x,w5.alloc (.cells #[.int .u64 (h:Int), .int .i64 (k:Int)] 254)=x:=⟨_,rfl⟩
        rw [hb] at y0 y1⊢
        rw [hw6] at x0 x1 y0 y1 hB⊢
        have HB:=Lib.hid hB
        clear nb hb hw6 hB c0 c1 B5 hHeld1
        go_wp2_with fail
        go_quiet (fail)
        go_wp2
        go_ret
        exact ⟨rfl,below_drewN HB.out _⟩
      · rename_i hHeld1
        have x0:((w5.setCell ⟨w.heap.size,0,none⟩ (.int .u64 (h:Int))).setCell ⟨w.heap.size,1,none⟩ (.int .i64 (k:Int))).cell? ⟨lp,o,none⟩=some (.int .u64 (h:Int)):=hHeld1.1
        have x1:((w5.setCell ⟨w.heap.size,0,none⟩ (.int .u64 (h:Int))).setCell ⟨w.heap.size,1,none⟩ (.int .i64 (k:Int))).cell? ⟨lp,o+1,none⟩=some (.int .i64 n):=hHeld1.2
        have nb:=(NB.out.put 0 (.int .u64 (h:Int))).put 1 (.int .i64 (k:Int))
        have y0:((w5.setCell ⟨w.heap.size,0,none⟩ (.int .u64 (h:Int))).setCell ⟨w.heap.size,1,none⟩ (.int .i64 (k:Int))).cell? ⟨w.heap.size,0,none⟩=some (.int .u64 (h:Int)):=nb.cell 0
        have y1:((w5.setCell ⟨w.heap.size,0,none⟩ (.int .u64 (h:Int))).setCell ⟨w.heap.size,1,none⟩ (.int .i64 (k:Int))).cell? ⟨w.heap.size,1,none⟩=some (.int .i64 (k:Int)):=nb.cell 1
        have hB:Below w.heap.size w ((w5.setCell ⟨w.heap.size,0,none⟩ (.int .u64 (h:Int))).setCell ⟨w.heap.size,1,none⟩ (.int .i64 (k:Int))):=(B5.out.setCell (p:=⟨w.heap.size,0,none⟩) (Nat.le_refl _) _).setCell (p:=⟨w.heap.size,1,none⟩) (Nat.le_refl _) _
        obtain ⟨b,hb⟩: ∃b,w.heap.size=b:=⟨_,rfl⟩
        obtain ⟨w6,hw6⟩: ∃x,(w5.setCell ⟨w.heap.size,0,none⟩ (.int .u64 (h:Int))).setCell ⟨w.heap.size,1,none⟩ (.int .i64 (k:Int))=x:=⟨_,rfl⟩
        rw [hw6] at x0 x1 y0 y1 hB⊢
        have HB:=Lib.hid hB
        clear nb hw6 hB c0 c1 B5 hHeld1 a0 a1 g0 g1 NB hb b
        go_wp2_with fail
        go_quiet (fail)
        go_wp2
        go_ret
        exact ⟨rfl,below_drewN HB.out _⟩
end Go.Proofs.YtippfeplogkaiaaGreatDoor
namespace Go.Proofs.YtippfeplogkaiaaGreatDoor
open Go.RowKit Go.Shelf ListMath
set_option linter.unusedVariables false
attribute [local go_sem] Oper.semAt_some
theorem all_some {L:List Nat} {h:Nat} {n:Int} {r:List Nat} (hn:0≤n) (e:allN ⟨L,h,n⟩=some r):r=(walkF L (mostF L n) h).map (·.1):=by
  have h1:=allN_row (s:=⟨L,h,n⟩) hn
  rw [e] at h1
  have h2:=rowF_walk L (mostF L n) h
  change chainN L h n=_ at h2
  simp only [] at h1
  rw [h2] at h1
  split at h1
  · rename_i r' hr'
    split at hr'
    · injection hr' with hr'
      split at h1
      · injection h1 with h1;rw [h1,hr']
      · cases h1
    · cases hr'
  · cases h1
end Go.Proofs.YtippfeplogkaiaaGreatDoor
namespace Go.Proofs.YtippfeplogkaiaaGreatDoor
open Go.RowKit ListMath
set_option linter.unusedVariables false
theorem load8' {w:World} {p g:Nat} {L:List Nat} (h:IsMem w p g L) (a:Nat):
    (a+8≤L.length→Calls Tryz.prog 273 #[.pointer (some ⟨p,0,none⟩), .int .u64 (a:Int), .int .i64 8] w fun e w'=>e= .returned (.tuple #[.int .u64 (linkAt L a:Int), .int .i64 0])∧w=w')∧
    (¬a+8≤L.length→Calls Tryz.prog 273 #[.pointer (some ⟨p,0,none⟩), .int .u64 (a:Int), .int .i64 8] w fun e w'=>e= .returned (.tuple #[.int .u64 0, .int .i64 3])∧w=w'):=⟨fun h8=>load8 h h8,fun h8=>load8_out h h8⟩
def PushP (w:World) (p g lp o k:Nat) (s:LS) (l:List Nat) (i:Value) (wr:World):Prop:=
  ∃j:Nat,j≤k∧i= .int .i64 (j:Int)∧(pushN s (l.take j)).2=0∧PL wr p g lp o (pushN s (l.take j)).1∧Wrt (fun b=>b=g) (LPl lp o) w wr
set_option maxHeartbeats 2000000 in
theorem push_any (w:World) {p g lp o:Nat} {s:LS} (R:PL w p g lp o s) {a:Option Addr} {k cap:Nat} {l:List Nat} (hq:Seq Elem.u64s w (.slice a k cap) l) (hne:0<k→ ∀b,In (.slice a k cap) b→b≠g∧b≠lp) (hx: ∀x∈l,x≤18446744073709551615) (hk:k≤100000) (hh:s.h≤18446744073709551615) (hn:0≤s.n∧s.n≤1000000000):
    Calls Tryz.prog 257 #[.pointer (some ⟨lp,o,none⟩), .pointer (some ⟨p,0,none⟩), .slice a k cap] w fun e w'=>e= .returned (.int .i64 (pushN s l).2)∧PL w' p g lp o (pushN s l).1∧Wrt (fun b=>b=g) (LPl lp o) w w':=by
  have hlen:=hq.len
  have Q:=Lib.hid hq;have NE:=Lib.hid hne;have HX:=Lib.hid hx;have HK:=Lib.hid hlen
  have R0:=Lib.hid R
  obtain ⟨E,hE⟩: ∃E,pushN s l=E:=⟨_,rfl⟩
  rw [hE]
  have HE:=Lib.hid hE
  clear hq hne hx hlen R hE
  go_enter Tryz.func257,Tryz.ntmps257
  go_wp2
  go_loopw [18] (fun i wr=>PushP w p g lp o k s l i wr) (fun i _=>k-(intOf i).toNat)
  case atStart=>exact ⟨0,Nat.zero_le _,rfl,rfl,R0.out,Wrt.refl _ _ _⟩
  case round=>
    obtain ⟨j,hj,rfl,hz,hr,hw⟩:=hrel
    by_cases hjk:j<k
    · obtain ⟨x,hx⟩: ∃x,l[j]? =some x:=⟨l[j]'(by rw [←HK.out];exact hjk),List.getElem?_eq_getElem _⟩
      have hxb:=HX.out x (List.mem_of_getElem? hx)
      have hjn:=pushN_n (l.take j) s
      have hjl:(l.take j).length=j:=by rw [List.length_take,←HK.out];omega
      rw [hjl] at hjn
      have hnext:=pushN_take hx hz
      have hhalt:=pushN_halt hx hz
      have hb2:=fun b (hb:In (.slice a k cap) b)=>hw.upd.block b
      have hcellsAt: ∃b off,a=some ⟨b,off,none⟩∧wr.cell? ⟨b,off+j,none⟩=some (.int .u64 (x:Int)):=by
        obtain ⟨b,off,rfl,hc⟩:=Q.out.elem hx
        have h0:=hc 0 (.int .u64 (x:Int)) rfl
        simp only [Elem.u64s,Nat.add_zero,Nat.mul_one] at h0
        have hlt:=World.block_lt_of_cell? w _ h0
        have hn:=NE.out (by omega) b rfl
        refine ⟨b,off,rfl,(World.cell?_of_block (a:=⟨b,off+j,none⟩) (hw.upd.block b hlt ?_)).trans h0⟩
        rintro (e|⟨i,e,_⟩)
        · exact hn.1 e
        · exact hn.2 e
      obtain ⟨b,off,rfl,d0⟩:=hcellsAt
      obtain ⟨⟨Lj,hd,n⟩,hS⟩: ∃S,(pushN s (l.take j)).1=S:=⟨_,rfl⟩
      rw [hS] at hr hnext hhalt hjn
      have hhd:hd≤18446744073709551615:=by
        have:=pushN_h (l.take j) s hh (fun x hx=>HX.out x (List.mem_of_mem_take hx))
        rw [hS] at this;exact this
      simp only [] at hjn
      have c0:wr.cell? ⟨lp,o,none⟩=some (.int .u64 (hd:Int)):=hr.lst.c0
      have f0:wr.frozen? ⟨lp,o,none⟩=false:=hr.lst.frozen _
      have ST:=Lib.hid (store8 wr hr.mem x hd hxb hhd)
      have t1:decide ((j:Int)<(k:Int))=true:=decide_eq_true (by omega)
      have t1':decide (j<k)=true:=decide_eq_true hjk
      have j0:(0:Int)≤(j:Int):=by omega
      have j1:(j:Int)<(k:Int):=by omega
      have RR:=Lib.hid hr;have WW:=Lib.hid hw;have HNX:=Lib.hid hnext;have HHL:=Lib.hid hhalt
      obtain ⟨hj1,hj2,hj3⟩:=hjn
      have HJ3:=Lib.hid hj3
      clear hr hw hnext hhalt hx hz hS hjl hb2 hj3
      by_cases hx0:x=0
      · subst hx0
        have hp:push1 ⟨Lj,hd,n⟩ 0=(⟨Lj,hd,n⟩,2):=by unfold push1;rw [if_pos rfl]
        have hE:E=(⟨Lj,hd,n⟩,2):=by rw [←HE.out,HHL.out (by rw [hp];show (2:Int)≠0;decide),hp]
        subst hE
        have t2:(((0:Nat):Int)==0)=true:=by decide
        clear hp ST
        go_wp2
        go_ret
        exact ⟨rfl,RR.out,WW.out⟩
      · have t2:((x:Int)==0)=false:=by rw [beq_eq_false_iff_ne];omega
        by_cases h8:x+8≤Lj.length
        · rw [if_pos h8,if_pos h8] at ST
          have hp:push1 ⟨Lj,hd,n⟩ x=(⟨MemMath.put8 Lj x hd,x,n+1⟩,0):=by unfold push1;rw [if_neg hx0,if_pos h8]
          rw [hp] at HNX
          clear hp hx0 h8
          go_wp2_with fail
          refine ST.out.mono ?_;rintro e w6 ⟨rfl,hr6,hu6⟩
          have R6:=Lib.hid hr6
          have l6:=RR.out.lst.upd hu6 RR.out.ng
          have W6:=Lib.hid (WW.out.upd' hu6 (fun _ h=>h))
          have L6:=Lib.hid l6
          clear c0 f0
          have c0:w6.cell? ⟨lp,o,none⟩=some (.int .u64 (hd:Int)):=l6.c0
          have f0:w6.frozen? ⟨lp,o,none⟩=false:=l6.frozen _
          have c1:w6.cell? ⟨lp,o+1,none⟩=some (.int .i64 n):=l6.c1
          have f1:w6.frozen? ⟨lp,o+1,none⟩=false:=l6.frozen _
          clear hr6 hu6 l6
          go_wp2
          go_roundw
          case rel=>
            refine ⟨j+1,by omega,by go_num,by rw [HNX.out], ?_,(W6.out.setCell ⟨rfl,Or.inl rfl⟩ _).setCell ⟨rfl,Or.inr rfl⟩ _⟩
            rw [HNX.out]
            have hl:=(L6.out.head x).count (n+1)
            refine ⟨(R6.out.upd ((Upd.refl (fun b=>b=lp) w6).setCell (.inl rfl) _) (fun e=>RR.out.np e.symm) (fun e=>RR.out.ng e.symm)).upd ((Upd.refl (fun b=>b=lp) _).setCell (.inl rfl) _) (fun e=>RR.out.np e.symm) (fun e=>RR.out.ng e.symm),hl,RR.out.np,RR.out.ng⟩
          case measure=>simp [intOf];omega
        · rw [if_neg h8,if_neg h8] at ST
          have hp:push1 ⟨Lj,hd,n⟩ x=(⟨Lj,hd,n⟩,3):=by unfold push1;rw [if_neg hx0,if_neg h8]
          have hE:E=(⟨Lj,hd,n⟩,3):=by rw [←HE.out,HHL.out (by rw [hp];show (3:Int)≠0;decide),hp]
          subst hE
          clear hp hx0 h8
          go_wp2_with fail
          refine ST.out.mono ?_;rintro e w6 ⟨rfl,hr6,hu6⟩
          have R6:=Lib.hid hr6
          have L6:=Lib.hid (RR.out.lst.upd hu6 RR.out.ng)
          have W6:=Lib.hid (WW.out.upd' hu6 (fun _ h=>h))
          clear hr6 hu6
          go_wp2
          go_ret
          exact ⟨rfl,⟨R6.out,L6.out,RR.out.np,RR.out.ng⟩,W6.out⟩
    · obtain rfl:j=k:=by omega
      have t1:decide ((j:Int)<(j:Int))=false:=decide_eq_false (by omega)
      have htk:l.take j=l:=by rw [HK.out,List.take_length]
      rw [htk,HE.out] at hz hr
      have RR:=Lib.hid hr;have WW:=Lib.hid hw
      have HZ:=Lib.hid hz
      clear hr hw htk hz
      go_wp2
      go_ret
      rw [HZ.out]
      exact ⟨rfl,RR.out,WW.out⟩
set_option maxHeartbeats 1000000 in
theorem pop_any (w:World) {p g lp o:Nat} {s:LS} (R:PL w p g lp o s) (hh:s.h≤18446744073709551615) (hn:0≤s.n∧s.n≤1000000000):
    Calls Tryz.prog 250 #[.pointer (some ⟨lp,o,none⟩), .pointer (some ⟨p,0,none⟩)] w fun e w'=>e= .returned (.tuple #[.int .u64 ((popN s).2.1:Int), .int .i64 (popN s).2.2])∧PL w' p g lp o (popN s).1∧Wrt (fun _=>False) (LPl lp o) w w':=by
  obtain ⟨L,hd,n⟩:=s
  simp only [] at hh hn
  obtain ⟨n0,n1⟩:=hn
  have c0:w.cell? ⟨lp,o,none⟩=some (.int .u64 (hd:Int)):=R.lst.c0
  have f0:w.frozen? ⟨lp,o,none⟩=false:=R.lst.frozen _
  have c1:w.cell? ⟨lp,o+1,none⟩=some (.int .i64 n):=R.lst.c1
  have f1:w.frozen? ⟨lp,o+1,none⟩=false:=R.lst.frozen _
  have HL:=load8' R.mem hd
  have RR:=Lib.hid R
  simp only [] at HL
  clear R
  by_cases hz:n=0
  · subst hz
    have e:popN ⟨L,hd,0⟩=(⟨L,hd,0⟩,0,5):=by unfold popN;rw [if_pos rfl]
    rw [e]
    clear e HL
    go_enter Tryz.func250,Tryz.ntmps250
    go_wp2
    go_ret2
    exact ⟨rfl,RR.out,Wrt.refl _ _ _⟩
  · have t1:((n:Int)==0)=false:=by rw [beq_eq_false_iff_ne];exact hz
    by_cases h8:hd+8≤L.length
    · have e:popN ⟨L,hd,n⟩=(⟨L,linkAt L hd,n-1⟩,hd,0):=by unfold popN;rw [if_neg hz,if_pos h8]
      rw [e]
      have HC:=Lib.hid (HL.1 h8)
      obtain ⟨k,hk⟩: ∃k,linkAt L hd=k:=⟨_,rfl⟩
      rw [hk] at HC⊢
      clear e HL h8 hk hz
      go_enter Tryz.func250,Tryz.ntmps250
      go_wp2_with (go_at_call 273;refine HC.out.mono ?_;rintro e w1 ⟨rfl,rfl⟩)
      go_ret2
      have hl:=(RR.out.lst.head k).count (n-1)
      exact ⟨rfl,⟨(RR.out.mem.upd ((Upd.refl (fun b=>b=lp) w).setCell (.inl rfl) _) (fun e=>RR.out.np e.symm) (fun e=>RR.out.ng e.symm)).upd ((Upd.refl (fun b=>b=lp) _).setCell (.inl rfl) _) (fun e=>RR.out.np e.symm) (fun e=>RR.out.ng e.symm),hl,RR.out.np,RR.out.ng⟩,((Wrt.refl _ _ w).setCell ⟨rfl,Or.inl rfl⟩ _).setCell ⟨rfl,Or.inr rfl⟩ _⟩
    · have e:popN ⟨L,hd,n⟩=(⟨L,hd,n⟩,0,3):=by unfold popN;rw [if_neg hz,if_neg h8]
      rw [e]
      have HC:=Lib.hid (HL.2 h8)
      clear e HL h8 hz
      go_enter Tryz.func250,Tryz.ntmps250
      go_wp2_with (go_at_call 273;refine HC.out.mono ?_;rintro e w1 ⟨rfl,rfl⟩)
      go_ret2
      exact ⟨rfl,RR.out,Wrt.refl _ _ _⟩
end Go.Proofs.YtippfeplogkaiaaGreatDoor
namespace Go.Proofs.YtippfeplogkaiaaGreatDoor
open Go.RowKit ListMath
set_option linter.unusedVariables false
theorem infoList:(Tryz.prog.info? 254).map (·.size)=some 2:=by kernel_rfl
theorem ptr_other {w:World} {lp o op o2:Nat} {lh oh:Nat} {ln on:Int} (l:LCell w lp o lh ln) (k:LCell w op o2 oh on) (hne: ¬(op=lp∧o2=o)):
    (binOp .eql 349 (.pointer (some ⟨op,o2,none⟩)) (.pointer (some ⟨lp,o,none⟩))).run Tryz.prog w= .ok (.bool false) w:=by
  obtain ⟨t,cs,b,_⟩:=l
  obtain ⟨t2,cs2,b2,_⟩:=k
  have hi:=infoList
  cases hj:Tryz.prog.info? 254 with
  |none=>rw [hj] at hi;cases hi
  | some j=>
    rw [hj] at hi
    refine run_eql_ptr_other w Tryz.underlying349 hj (by simp at hi;omega) (fun e=>hne ?_) b2 b
    injection e with e1 e2 _
    exact ⟨e1,e2⟩
theorem below_upd {S:Nat→Prop} {w w':World} (h:Below w.heap.size w w'):Upd S w w':=(updFalse_of h).mono fun _ x=>x.elim
set_option maxRecDepth 100000 in
set_option maxHeartbeats 4000000 in
theorem join_any (w:World) {p g lp o op o2:Nat} {L:List Nat} {lh oh:Nat} {ln on:Int} (R:IsMem w p g L) (l:LCell w lp o lh ln) (k:LCell w op o2 oh on) (nq:lp≠p∧op≠p) (nh:lp≠g∧op≠g) (ha:Apart2 lp o op o2) (hlh:U64B lh) (hoh:U64B oh) (hln:CntB ln) (hon:CntB on):
    Calls Tryz.prog 277 #[.pointer (some ⟨lp,o,none⟩), .pointer (some ⟨p,0,none⟩), .pointer (some ⟨op,o2,none⟩)] w fun e w'=>e= .returned (.int .i64 (if (joinN L lh ln oh on).isSome then 0 else 3))∧
      IsMem w' p g (joinG L lh oh ln on).1.L∧LCell w' lp o (joinG L lh oh ln on).1.h (joinG L lh oh ln on).1.n∧LCell w' op o2 (joinG L lh oh ln on).2.h (joinG L lh oh ln on).2.n∧Wrt (fun b=>b=g) (fun b i=>LPl lp o b i∨LPl op o2 b i) w w':=by
  have HR:=Lib.hid (right_any w R k hoh hon)
  obtain ⟨ap1,ap2,ap3,ap4⟩:=Aside.at ha
  have hne: ¬(op=lp∧o2=o):=by rintro ⟨rfl,rfl⟩;unfold Apart2 at ha;omega
  have hpe:=ptr_other l k hne
  have hll:=l.lt
  have hkl:=k.lt
  have R0:=Lib.hid R;have L0:=Lib.hid l;have K0:=Lib.hid k;have NQ:=Lib.hid nq;have NH:=Lib.hid nh
  have A1:=Lib.hid ap1;have A2:=Lib.hid ap2;have A3:=Lib.hid ap3;have A4:=Lib.hid ap4
  obtain ⟨ln0,ln1⟩:=hln
  obtain ⟨on0,on1⟩:=hon
  unfold joinG
  cases hal:allN ⟨L,oh,on⟩ with
  | none=>
    rw [joinN_none hal]
    rw [hal] at HR
    simp only [Option.getD_none,Option.isSome_none] at HR⊢
    clear hal R l k nq nh ha ap1 ap2 ap3 ap4
    go_enter Tryz.func277,Tryz.ntmps277
    go_wp2_with fail
    refine HR.out.mono ?_;rintro e w1 ⟨rfl,hb⟩
    have R1:=Lib.hid (R0.out.upd (updFalse_of hb) id id);have L1:=Lib.hid (L0.out.upd (updFalse_of hb) id);have K1:=Lib.hid (K0.out.upd (updFalse_of hb) id)
    have W1:=Lib.hid (Wrt.ofBelow (S:=fun b=>b=g) (C:=fun b i=>LPl lp o b i∨LPl op o2 b i) hb)
    clear hb
    go_wp2
    go_ret
    exact ⟨rfl,R1.out,L1.out,K1.out,W1.out⟩
  | some r=>
    rw [hal] at HR
    simp only [Option.isSome_some] at HR
    by_cases hr:r= []
    · subst hr
      rw [joinN_nil hal]
      simp only [Option.getD_some,Option.isSome_some,if_true]
      have hon0:on=0:=by
        have h1:=allN_row (s:=⟨L,oh,on⟩) on0
        rw [hal] at h1
        cases hc:chainN L oh on with
        |none=>simp only [hc] at h1;cases h1
        | some q=>
          simp only [hc] at h1
          split at h1
          · rename_i hq
            injection h1 with h1
            subst h1
            simp at hq
            omega
          · cases h1
      subst hon0
      clear hal R l k nq nh ha ap1 ap2 ap3 ap4
      go_enter Tryz.func277,Tryz.ntmps277
      go_wp2_with fail
      refine HR.out.mono ?_;rintro e w1 ⟨rfl,hb⟩
      have R1:=Lib.hid (R0.out.upd (updFalse_of hb) id id);have L1:=Lib.hid (L0.out.upd (updFalse_of hb) id)
      have k1:=K0.out.upd (updFalse_of hb) id
      have W1:=Lib.hid (Wrt.ofBelow (S:=fun b=>b=g) (C:=fun b i=>LPl lp o b i∨LPl op o2 b i) hb)
      have K1:=Lib.hid k1
      have d0:w1.cell? ⟨op,o2,none⟩=some (.int .u64 (oh:Int)):=k1.c0
      have d1:w1.cell? ⟨op,o2+1,none⟩=some (.int .i64 0):=k1.c1
      have g0:w1.frozen? ⟨op,o2,none⟩=false:=k1.frozen _
      have g1:w1.frozen? ⟨op,o2+1,none⟩=false:=k1.frozen _
      clear hb k1
      go_wp2
      go_ret
      refine ⟨rfl,(R1.out.upd (upd_set _) (fun e=>NQ.out.2 e.symm) (fun e=>NH.out.2 e.symm)).upd (upd_set _) (fun e=>NQ.out.2 e.symm) (fun e=>NH.out.2 e.symm),(L1.out.keep (wrt_head (lp:=op) (o:=o2) _) id A3.out A4.out).keep (wrt_count (lp:=op) (o:=o2) _) id A3.out A4.out,(K1.out.head 0).count 0,(W1.out.setCell (Or.inr ⟨rfl,Or.inl rfl⟩) _).setCell (Or.inr ⟨rfl,Or.inr rfl⟩) _⟩
    · obtain ⟨c,z,hc,hz,hlast,hz8,hon'⟩:=allN_last hal on0 hr
      simp only [] at hz8 hon'
      rw [joinN_cons hal hr,hlast]
      simp only [Option.getD_some,Option.isSome_some,if_true]
      rw [hc] at hon'
      have hzb:z≤18446744073709551615:=by have:=R.big;omega
      have hlz:lastP (walkF L (mostF L on) oh)=z:=by rw [←hlast];unfold lastP;rw [←all_some on0 hal]
      have HZ8:=Lib.hid hz8
      have HLS:=Lib.hid (fun (w':World) (hb:Below w.heap.size w w')=>last_any p g op o2 L oh on w' (R.upd (updFalse_of hb) id id) (k.upd (updFalse_of hb) id) hoh (by omega) (by omega))
      rw [hlz] at HLS
      have t1:decide ((0:Int)<on)=true:=decide_eq_true (by omega)
      have ST:=Lib.hid (fun (w':World) (r:IsMem w' p g L)=>store8 w' r z lh hzb hlh)
      rw [if_pos hz8] at ST
      rw [if_pos hz8] at ST
      clear hal R l k nq nh ha ap1 ap2 ap3 ap4 hr hc hz hlast hz8 hon' hlz
      go_enter Tryz.func277,Tryz.ntmps277
      go_wp2_with fail
      refine HR.out.mono ?_;rintro e w1 ⟨rfl,hb⟩
      have l1:=L0.out.upd (updFalse_of hb) id
      have k1:=K0.out.upd (updFalse_of hb) id
      have B1:=Lib.hid hb
      have c0:w1.cell? ⟨lp,o,none⟩=some (.int .u64 (lh:Int)):=l1.c0
      have d1:w1.cell? ⟨op,o2+1,none⟩=some (.int .i64 on):=k1.c1
      have hlw:lp<w1.heap.size:=l1.lt
      clear hb l1 k1
      go_wp2_with fail
      go_region_held3 (fun w'=>w'.cell? ⟨lp,o,none⟩=some (.int .u64 (lh:Int))) (first|go_keep|exact c0)
        (first
          |(go_at_call 289;(first|(with_reducible refine (HLS.out _ (B1.out.drew)).mono ?_));rintro e w4 ⟨rfl,hb4⟩;have B4:=Lib.hid (below_then B1.out.drew B1.out.drew.size hb4);have c0:w4.cell? ⟨lp,o,none⟩=some (.int .u64 (lh:Int)):=(hb4.cell (p:=⟨lp,o,none⟩) hlw).trans c0;clear hb4)
          |(go_at_call 234;(first|(with_reducible refine (ST.out _ (R0.out.upd (updFalse_of B4.out) id id)).mono ?_));rintro e w5 ⟨rfl,hr5,hu5⟩;have R5:=Lib.hid hr5;have U5:=Lib.hid ((below_upd B4.out).trans hu5);have c0:w5.cell? ⟨lp,o,none⟩=some (.int .u64 (lh:Int)):=(L0.out.upd ((below_upd B4.out).trans hu5) NH.out.1).c0;clear hr5 hu5))
      have L5:=Lib.hid (L0.out.upd U5.out NH.out.1)
      have K5:=Lib.hid (K0.out.upd U5.out NH.out.2)
      have W5:=Lib.hid (Wrt.ofUpd (C:=fun b i=>LPl lp o b i∨LPl op o2 b i) U5.out)
      clear c0 d1 hlw hpe t1
      have c0:w5.cell? ⟨lp,o,none⟩=some (.int .u64 (lh:Int)):=L5.out.c0
      have f0:w5.frozen? ⟨lp,o,none⟩=false:=L5.out.frozen _
      have d0:w5.cell? ⟨op,o2,none⟩=some (.int .u64 (oh:Int)):=K5.out.c0
      have L6:=Lib.hid (L5.out.head oh)
      have K6:=Lib.hid (K5.out.keep (wrt_head (lp:=lp) (o:=o) (.int .u64 (oh:Int))) id A1.out A2.out)
      have R6:=Lib.hid (R5.out.upd (upd_set (lp:=lp) (i:=o) (.int .u64 (oh:Int))) (fun e=>NQ.out.1 e.symm) (fun e=>NH.out.1 e.symm))
      have W6:=Lib.hid (W5.out.setCell (b:=lp) (i:=o) (Or.inl ⟨rfl,Or.inl rfl⟩) (.int .u64 (oh:Int)))
      go_wp2_with fail
      obtain ⟨w6,hw6⟩: ∃x,w5.setCell ⟨lp,o,none⟩ (.int .u64 (oh:Int))=x:=⟨_,rfl⟩
      rw [hw6] at L6 K6 R6 W6⊢
      clear hw6 c0 f0 d0
      have c1:w6.cell? ⟨lp,o+1,none⟩=some (.int .i64 ln):=L6.out.c1
      have f1:w6.frozen? ⟨lp,o+1,none⟩=false:=L6.out.frozen _
      have d1:w6.cell? ⟨op,o2+1,none⟩=some (.int .i64 on):=K6.out.c1
      have wr3:IntKind.i64.wrap (ln+on)=ln+on:=IntWalk.i64_in _ ⟨by omega,by omega⟩
      go_region
      have L7:=Lib.hid ((L6.out.count (ln+on)).upd (Upd.refl (fun _=>False) _).drew id)
      have K7:=Lib.hid ((K6.out.keep (wrt_count (lp:=lp) (o:=o) (.int .i64 (ln+on))) id A1.out A2.out).upd (Upd.refl (fun _=>False) _).drew id)
      have R7:=Lib.hid ((R6.out.upd (upd_set (lp:=lp) (i:=o+1) (.int .i64 (ln+on))) (fun e=>NQ.out.1 e.symm) (fun e=>NH.out.1 e.symm)).upd (Upd.refl (fun _=>False) _).drew id id)
      have W7:=Lib.hid ((W6.out.setCell (b:=lp) (i:=o+1) (Or.inl ⟨rfl,Or.inr rfl⟩) (.int .i64 (ln+on))).upd' (Upd.refl (fun _=>False) _).drew (fun _ h=>h.elim))
      obtain ⟨w7,hw7⟩: ∃x,(w6.setCell ⟨lp,o+1,none⟩ (.int .i64 (ln+on))).drew=x:=⟨_,rfl⟩
      rw [hw7] at L7 K7 R7 W7⊢
      clear hw7 c1 f1 d1 wr3
      have d0:w7.cell? ⟨op,o2,none⟩=some (.int .u64 (oh:Int)):=K7.out.c0
      have d1:w7.cell? ⟨op,o2+1,none⟩=some (.int .i64 on):=K7.out.c1
      have g0:w7.frozen? ⟨op,o2,none⟩=false:=K7.out.frozen _
      have g1:w7.frozen? ⟨op,o2+1,none⟩=false:=K7.out.frozen _
      go_wp2
      go_ret
      exact ⟨rfl,(R7.out.upd (upd_set _) (fun e=>NQ.out.2 e.symm) (fun e=>NH.out.2 e.symm)).upd (upd_set _) (fun e=>NQ.out.2 e.symm) (fun e=>NH.out.2 e.symm),(L7.out.keep (wrt_head (lp:=op) (o:=o2) _) id A3.out A4.out).keep (wrt_count (lp:=op) (o:=o2) _) id A3.out A4.out,(K7.out.head 0).count 0,(W7.out.setCell (Or.inr ⟨rfl,Or.inl rfl⟩) _).setCell (Or.inr ⟨rfl,Or.inr rfl⟩) _⟩
set_option maxHeartbeats 1000000 in
theorem push_nil (w:World) (p:Nat):Calls Tryz.prog 257 #[.pointer none, .pointer (some ⟨p,0,none⟩), .slice none 0 0] w fun e w'=>e= .returned (.int .i64 1)∧Below w.heap.size w w':=by
  go_enter Tryz.func257,Tryz.ntmps257
  go_wp2
  go_ret
  exact ⟨rfl,Below.refl _ _⟩
end Go.Proofs.YtippfeplogkaiaaGreatDoor
