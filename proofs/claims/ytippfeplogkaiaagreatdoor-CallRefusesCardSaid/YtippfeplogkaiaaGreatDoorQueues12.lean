/- Queues12: texts of layers below, joined (QSpots QMap QOps QRows QTold). -/
import Derived.Test.YtippfeplogkaiaaGreatDoorQueueCl
import Derived.Deep.RegionHeld3
import Derived.LaidEqlPtr
import Derived.Test.YtippfeplogkaiaaGreatDoorSmalls12
import Derived.Test.YtippfeplogkaiaaGreatDoorOwn11
import Derived.Deep.LoopGhost
namespace Go.Proofs.YtippfeplogkaiaaGreatDoor
open Go.RowKit QueueMath
set_option linter.unusedVariables false
abbrev Sp:=Int×Nat
def fstP:List Sp→Option Addr→Option Addr
  | [],d=>d
  |e::_,_=>some ⟨e.2,0,none⟩
def lstP:List Sp→Option Addr→Option Addr
  | [],d=>d
  |e::t,_=>lstP t (some ⟨e.2,0,none⟩)
abbrev spotC (x:Int) (ra:Addr) (p n:Option Addr):Array Value:= #[.int .i64 x, .pointer (some ra), .pointer p, .pointer n]
def SegP (w:World) (ra:Addr):Option Addr→List Sp→Option Addr→Prop
  |_, [],_=>True
  |p,e::t,n=>Blk w e.2 313 (spotC e.1 ra p (fstP t n))∧SegP w ra (some ⟨e.2,0,none⟩) t n
section
variable {w w':World} {ra:Addr} {p n d:Option Addr} {a b l:List Sp} {e:Sp}
theorem fstP_app:fstP (a++b) d=fstP a (fstP b d):=by cases a<;>rfl
theorem lstP_app:lstP (a++b) d=lstP b (lstP a d):=by
  induction a generalizing d with
  |nil=>rfl
  |cons x t ih=>exact ih
theorem segP_app:SegP w ra p (a++b) n↔SegP w ra p a (fstP b n)∧SegP w ra (lstP a p) b n:=by
  induction a generalizing p with
  |nil=>exact ⟨fun h=>⟨trivial,h⟩,fun h=>h.2⟩
  | cons x t ih=>
    show (Blk w x.2 _ (spotC x.1 ra p (fstP (t++b) n))∧SegP w ra (some ⟨x.2,0,none⟩) (t++b) n)↔(Blk w x.2 _ (spotC x.1 ra p (fstP t (fstP b n)))∧SegP w ra (some ⟨x.2,0,none⟩) t (fstP b n))∧SegP w ra (lstP t (some ⟨x.2,0,none⟩)) b n
    rw [ih,fstP_app]
    exact ⟨fun h=>⟨⟨h.1,h.2.1⟩,h.2.2⟩,fun h=>⟨h.1.1,h.1.2,h.2⟩⟩
theorem segP_last {x:Int} {k:Nat}:SegP w ra p (a++ [(x,k)]) n↔SegP w ra p a (some ⟨k,0,none⟩)∧Blk w k 313 (spotC x ra (lstP a p) n):=by
  rw [segP_app]
  exact ⟨fun h=>⟨h.1,h.2.1⟩,fun h=>⟨h.1,h.2,trivial⟩⟩
theorem segP_mid {x:Int} {k:Nat}:SegP w ra p (a++(x,k)::b) n↔SegP w ra p a (some ⟨k,0,none⟩)∧Blk w k 313 (spotC x ra (lstP a p) (fstP b n))∧SegP w ra (some ⟨k,0,none⟩) b n:=by
  rw [segP_app];exact Iff.rfl
theorem SegP.upd {S:Nat→Prop} (h:SegP w ra p l n) (u:Upd S w w') (hs: ∀e∈l,¬S e.2):SegP w' ra p l n:=by
  induction l generalizing p with
  |nil=>trivial
  |cons x t ih=>exact ⟨h.1.upd u (hs x (List.mem_cons_self ..)),ih h.2 fun e he=>hs e (List.mem_cons_of_mem _ he)⟩
theorem SegP.grew (h:SegP w ra p l n) (hb:Below w.heap.size w w'):SegP w' ra p l n:=h.upd (updFalse_of hb) fun _ _=>id
theorem SegP.far (h:SegP w ra p l n) {c:Addr} (hc: ∀e∈l,e.2≠c.block) (u:Value):SegP (w.setCell c u) ra p l n:=by
  induction l generalizing p with
  |nil=>trivial
  |cons x t ih=>exact ⟨h.1.far (hc x (List.mem_cons_self ..)) u,ih h.2 fun e he=>hc e (List.mem_cons_of_mem _ he)⟩
theorem SegP.drew (h:SegP w ra p l n):SegP w.drew ra p l n:=h.upd ((Upd.refl (fun _=>False) w).drew) fun _ _=>id
theorem SegP.at (h:SegP w ra p l n) (he:e∈l): ∃p' n',Blk w e.2 313 (spotC e.1 ra p' n'):=by
  induction l generalizing p with
  |nil=>cases he
  | cons x t ih=>
    rcases List.mem_cons.1 he with rfl|he
    · exact ⟨_,_,h.1⟩
    · exact ih h.2 he
theorem SegP.next {y:Int} {j:Nat} (h:SegP w ra p (a++ [(y,j)]) n) (hj: ∀e∈a,e.2≠j) (n':Option Addr):SegP (w.setCell ⟨j,3,none⟩ (.pointer n')) ra p (a++ [(y,j)]) n':=by
  rw [segP_last] at h⊢
  exact ⟨h.1.far hj _,by have:=h.2.put 3 (.pointer n');simpa [spotC] using this⟩
theorem SegP.prev {z:Int} {m:Nat} (h:SegP w ra p ((z,m)::b) n) (hm: ∀e∈b,e.2≠m) (p':Option Addr):SegP (w.setCell ⟨m,2,none⟩ (.pointer p')) ra p' ((z,m)::b) n:=
  ⟨by have:=h.1.put 2 (.pointer p');simpa [spotC] using this,h.2.far hm _⟩
theorem SegP.set (h:SegP w ra p l n) {S:Nat→Prop} (u:Upd S w w') (hs: ∀e∈l,¬S e.2):SegP w' ra p l n:=h.upd u hs
end
def RowNow (w:World) (rb o:Nat) (t:TypeId) (cs:Array Value) (l:List Sp):Prop:=
  ∃cs',Blk w rb t cs'∧cs'.size=cs.size∧cs'[o]? =some (.pointer (fstP l none))∧cs'[o+1]? =some (.pointer (lstP l none))∧(∀i,i≠o→i≠o+1→cs'[i]? =cs[i]?)∧SegP w ⟨rb,o,none⟩ none l none
section
variable {w:World} {rb o:Nat} {t:TypeId} {cs:Array Value} {l:List Sp}
theorem set_same {i:Nat} {u:Value} {v:Value} (h:cs[i]? =some v):(cs.setIfInBounds i u)[i]? =some u:=by
  obtain ⟨x,_⟩:=Array.getElem?_eq_some_iff.1 h
  exact Array.getElem?_setIfInBounds_self_of_lt x
theorem set_other {i j:Nat} {u:Value} (h:j≠i):(cs.setIfInBounds i u)[j]? =cs[j]? :=by rw [Array.getElem?_setIfInBounds,if_neg (fun e=>h e.symm)]
end
abbrev blks (l:List Sp):List Nat:=l.map fun e=>e.2
def BlkOf (rb:Nat) (l:List Sp) (c:Nat):Prop:=c=rb∨ ∃e∈l,c=e.2
section
variable {w:World} {rb o:Nat} {t:TypeId} {cs:Array Value}
set_option maxRecDepth 100000 in
set_option maxHeartbeats 1000000 in
theorem cut_one {x:Int} {k:Nat} (hb:Blk w rb t cs) (c0:cs[o]? =some (.pointer (some ⟨k,0,none⟩))) (c1:cs[o+1]? =some (.pointer (some ⟨k,0,none⟩)))
    (sg:SegP w ⟨rb,o,none⟩ none [(x,k)] none) (hk:k≠rb):
    Calls Tryz.prog 271 #[.pointer (some ⟨rb,o,none⟩), .pointer (some ⟨k,0,none⟩)] w fun e w'=>e= .returned (.tuple #[])∧(RowNow w' rb o t cs []∧ ∃p n,Blk w' k 313 (spotC x ⟨rb,o,none⟩ p n))∧Upd (BlkOf rb []) w w':=by
  obtain ⟨bk,-⟩:=sg
  have k2:w.cell? ⟨k,2,none⟩=some (.pointer none):=bk.cell 2
  have k3:w.cell? ⟨k,3,none⟩=some (.pointer none):=bk.cell 3
  have r0:w.cell? ⟨rb,o,none⟩=some (.pointer (some ⟨k,0,none⟩)):=by rw [hb.cell];exact c0
  have r1:w.cell? ⟨rb,o+1,none⟩=some (.pointer (some ⟨k,0,none⟩)):=by rw [hb.cell];exact c1
  have f0:w.frozen? ⟨rb,o,none⟩=false:=hb.frozen o
  have f1:w.frozen? ⟨rb,o+1,none⟩=false:=hb.frozen (o+1)
  have HB:=Lib.hid hb;have BK:=Lib.hid bk;have C0:=Lib.hid c0;have C1:=Lib.hid c1;have HK:=Lib.hid hk
  have hk':rb≠k:=fun h=>hk h.symm
  clear hb bk c0 c1
  go_enter Tryz.func271,Tryz.ntmps271
  go_wp2
  refine bodyPost_end (results_none rfl _ _ _) rfl ?_
  have b1:=(HB.out.put o (.pointer none)).put (o+1) (.pointer none)
  refine ⟨rfl,⟨⟨_,b1,by simp, ?_, ?_,fun i h0 h1=> ?_,trivial⟩,none,none,(BK.out.far (p:=⟨rb,o,none⟩) HK.out _).far (p:=⟨rb,o+1,none⟩) HK.out _⟩,((Upd.refl _ w).setCell (p:=⟨rb,o,none⟩) (.inl (.inl rfl)) _).setCell (p:=⟨rb,o+1,none⟩) (.inl (.inl rfl)) _⟩
  · rw [set_other (by omega)];exact set_same C0.out
  · exact set_same ((set_other (by omega)).trans C1.out)
  · rw [set_other h1,set_other h0]
set_option maxRecDepth 100000 in
set_option maxHeartbeats 1000000 in
theorem cut_first {x z:Int} {k m:Nat} {l:List Sp} (hb:Blk w rb t cs) (c0:cs[o]? =some (.pointer (some ⟨k,0,none⟩))) {v:Value} (c1:cs[o+1]? =some (.pointer (lstP ((z,m)::l) none)))
    (sg:SegP w ⟨rb,o,none⟩ none ((x,k)::(z,m)::l) none) (hk:k≠rb) (hm:m≠rb) (hkm:k≠m) (hl: ∀e∈l,e.2≠rb∧e.2≠m):
    Calls Tryz.prog 271 #[.pointer (some ⟨rb,o,none⟩), .pointer (some ⟨k,0,none⟩)] w fun e w'=>e= .returned (.tuple #[])∧(RowNow w' rb o t cs ((z,m)::l)∧ ∃p n,Blk w' k 313 (spotC x ⟨rb,o,none⟩ p n))∧Upd (BlkOf rb ((z,m)::l)) w w':=by
  obtain ⟨bk,sg⟩:=sg
  have k2:w.cell? ⟨k,2,none⟩=some (.pointer none):=bk.cell 2
  have k3:w.cell? ⟨k,3,none⟩=some (.pointer (some ⟨m,0,none⟩)):=bk.cell 3
  have m2:w.cell? ⟨m,2,none⟩=some (.pointer (some ⟨k,0,none⟩)):=sg.1.cell 2
  have r0:w.cell? ⟨rb,o,none⟩=some (.pointer (some ⟨k,0,none⟩)):=by rw [hb.cell];exact c0
  have f0:w.frozen? ⟨rb,o,none⟩=false:=hb.frozen o
  have g2:w.frozen? ⟨m,2,none⟩=false:=sg.1.frozen 2
  have HB:=Lib.hid hb;have BK:=Lib.hid bk;have SG:=Lib.hid sg;have C0:=Lib.hid c0;have C1:=Lib.hid c1;have HK:=Lib.hid hk;have HM:=Lib.hid hm;have HKM:=Lib.hid hkm;have HL:=Lib.hid hl
  have hk':rb≠k:=fun h=>hk h.symm
  have hm':rb≠m:=fun h=>hm h.symm
  have hkm':m≠k:=fun h=>hkm h.symm
  clear hb bk sg c0 c1 hl
  go_enter Tryz.func271,Tryz.ntmps271
  go_wp2
  go_region_held3 (fun w'=>w'.cell? ⟨k,2,none⟩=some (.pointer none)∧w'.cell? ⟨k,3,none⟩=some (.pointer (some ⟨m,0,none⟩))) (first|go_keep|exact ⟨k2,k3⟩) (fail)
  go_wp2
  refine bodyPost_end (results_none rfl _ _ _) rfl ?_
  have b1:=(HB.out.put o (.pointer (some ⟨m,0,none⟩))).far (p:=⟨m,2,none⟩) (fun e=>HM.out e.symm) (.pointer none)
  have s1:=(SG.out.far (c:=⟨rb,o,none⟩) (fun e he=>by
    rcases List.mem_cons.1 he with rfl|he
    · exact HM.out
    · exact (HL.out e he).1) (.pointer (some ⟨m,0,none⟩))).prev (fun e he=>(HL.out e he).2) none
  refine ⟨rfl,⟨⟨_,b1,by simp, ?_, ?_,fun i h0 h1=> ?_,s1.drew⟩,none,some ⟨m,0,none⟩,(BK.out.far (p:=⟨rb,o,none⟩) HK.out _).far (p:=⟨m,2,none⟩) HKM.out _⟩,(((Upd.refl _ w).setCell (p:=⟨rb,o,none⟩) (.inl (.inl rfl)) _).setCell (p:=⟨m,2,none⟩) (.inl (.inr ⟨_,List.mem_cons_self ..,rfl⟩)) _).drew⟩
  · exact set_same C0.out
  · rw [set_other (by omega)];exact C1.out
  · rw [set_other h0]
set_option maxRecDepth 100000 in
set_option maxHeartbeats 1000000 in
theorem cut_last {x y:Int} {k j:Nat} {l:List Sp} (hb:Blk w rb t cs) (c0:cs[o]? =some (.pointer (fstP (l++ [(y,j)]) none))) (c1:cs[o+1]? =some (.pointer (some ⟨k,0,none⟩)))
    (sg:SegP w ⟨rb,o,none⟩ none (l++ [(y,j)]) (some ⟨k,0,none⟩)) (bk:Blk w k 313 (spotC x ⟨rb,o,none⟩ (some ⟨j,0,none⟩) none)) (hk:k≠rb) (hj:j≠rb) (hkj:k≠j) (hl: ∀e∈l,e.2≠rb∧e.2≠j):
    Calls Tryz.prog 271 #[.pointer (some ⟨rb,o,none⟩), .pointer (some ⟨k,0,none⟩)] w fun e w'=>e= .returned (.tuple #[])∧(RowNow w' rb o t cs (l++ [(y,j)])∧ ∃p n,Blk w' k 313 (spotC x ⟨rb,o,none⟩ p n))∧Upd (BlkOf rb (l++ [(y,j)])) w w':=by
  have bj:=(segP_last.1 sg).2
  have k2:w.cell? ⟨k,2,none⟩=some (.pointer (some ⟨j,0,none⟩)):=bk.cell 2
  have k3:w.cell? ⟨k,3,none⟩=some (.pointer none):=bk.cell 3
  have j3:w.cell? ⟨j,3,none⟩=some (.pointer (some ⟨k,0,none⟩)):=bj.cell 3
  have r1:w.cell? ⟨rb,o+1,none⟩=some (.pointer (some ⟨k,0,none⟩)):=by rw [hb.cell];exact c1
  have f1:w.frozen? ⟨rb,o+1,none⟩=false:=hb.frozen (o+1)
  have g3:w.frozen? ⟨j,3,none⟩=false:=bj.frozen 3
  have HB:=Lib.hid hb;have BK:=Lib.hid bk;have SG:=Lib.hid sg;have C0:=Lib.hid c0;have C1:=Lib.hid c1;have HK:=Lib.hid hk;have HJ:=Lib.hid hj;have HKJ:=Lib.hid hkj;have HL:=Lib.hid hl
  have hk':rb≠k:=fun h=>hk h.symm
  have hj':rb≠j:=fun h=>hj h.symm
  have hkj':j≠k:=fun h=>hkj h.symm
  clear hb bk bj sg c0 c1 hl
  go_enter Tryz.func271,Tryz.ntmps271
  go_wp2
  go_region_held3 (fun w'=>w'.cell? ⟨k,2,none⟩=some (.pointer (some ⟨j,0,none⟩))∧w'.cell? ⟨k,3,none⟩=some (.pointer none)) (first|go_keep|exact ⟨k2,k3⟩) (fail)
  go_wp2
  refine bodyPost_end (results_none rfl _ _ _) rfl ?_
  have b1:=(HB.out.far (p:=⟨j,3,none⟩) (fun e=>HJ.out e.symm) (.pointer none)).put (o+1) (.pointer (some ⟨j,0,none⟩))
  have s1:=(SG.out.next (fun e he=>(HL.out e he).2) none).far (c:=⟨rb,o+1,none⟩) (fun e he=>by
    rcases List.mem_append.1 he with he|he
    · exact (HL.out e he).1
    · rw [List.mem_singleton.1 he];exact HJ.out) (.pointer (some ⟨j,0,none⟩))
  refine ⟨rfl,⟨⟨_,b1,by simp, ?_, ?_,fun i h0 h1=> ?_,s1.drew⟩,some ⟨j,0,none⟩,none,(BK.out.far (p:=⟨j,3,none⟩) HKJ.out _).far (p:=⟨rb,o+1,none⟩) HK.out _⟩,((Upd.refl _ w).setCell (p:=⟨j,3,none⟩) (.inl (.inr ⟨(y,j),by simp,rfl⟩)) _).drew.setCell (p:=⟨rb,o+1,none⟩) (.inl (.inl rfl)) _⟩
  · rw [set_other (by omega)];exact C0.out
  · rw [lstP_app];exact set_same C1.out
  · rw [set_other h1]
set_option maxRecDepth 100000 in
set_option maxHeartbeats 1000000 in
theorem cut_mid {x y z:Int} {k j m:Nat} {l r:List Sp} (hb:Blk w rb t cs) (c0:cs[o]? =some (.pointer (fstP (l++ [(y,j)]) none))) (c1:cs[o+1]? =some (.pointer (lstP ((z,m)::r) none)))
    (sg:SegP w ⟨rb,o,none⟩ none (l++ [(y,j)]) (some ⟨k,0,none⟩)) (bk:Blk w k 313 (spotC x ⟨rb,o,none⟩ (some ⟨j,0,none⟩) (some ⟨m,0,none⟩))) (sr:SegP w ⟨rb,o,none⟩ (some ⟨k,0,none⟩) ((z,m)::r) none)
    (hk:k≠rb) (hj:j≠rb) (hm:m≠rb) (hkj:k≠j) (hkm:k≠m) (hjm:j≠m) (hl: ∀e∈l,e.2≠rb∧e.2≠j∧e.2≠m) (hr: ∀e∈r,e.2≠rb∧e.2≠j∧e.2≠m):
    Calls Tryz.prog 271 #[.pointer (some ⟨rb,o,none⟩), .pointer (some ⟨k,0,none⟩)] w fun e w'=>e= .returned (.tuple #[])∧(RowNow w' rb o t cs (l++ [(y,j)]++(z,m)::r)∧ ∃p n,Blk w' k 313 (spotC x ⟨rb,o,none⟩ p n))∧Upd (BlkOf rb (l++ [(y,j)]++(z,m)::r)) w w':=by
  have bj:=(segP_last.1 sg).2
  have k2:w.cell? ⟨k,2,none⟩=some (.pointer (some ⟨j,0,none⟩)):=bk.cell 2
  have k3:w.cell? ⟨k,3,none⟩=some (.pointer (some ⟨m,0,none⟩)):=bk.cell 3
  have j3:w.cell? ⟨j,3,none⟩=some (.pointer (some ⟨k,0,none⟩)):=bj.cell 3
  have m2:w.cell? ⟨m,2,none⟩=some (.pointer (some ⟨k,0,none⟩)):=sr.1.cell 2
  have g2:w.frozen? ⟨m,2,none⟩=false:=sr.1.frozen 2
  have g3:w.frozen? ⟨j,3,none⟩=false:=bj.frozen 3
  have HB:=Lib.hid hb;have BK:=Lib.hid bk;have SG:=Lib.hid sg;have SR:=Lib.hid sr;have C0:=Lib.hid c0;have C1:=Lib.hid c1;have HK:=Lib.hid hk;have HJ:=Lib.hid hj;have HM:=Lib.hid hm;have HKJ:=Lib.hid hkj;have HKM:=Lib.hid hkm;have HJM:=Lib.hid hjm;have HL:=Lib.hid hl;have HR:=Lib.hid hr
  have hkj':j≠k:=fun h=>hkj h.symm
  have hkm':m≠k:=fun h=>hkm h.symm
  have hjm':m≠j:=fun h=>hjm h.symm
  clear hb bk bj sg sr c0 c1 hl hr hk hj hm
  go_enter Tryz.func271,Tryz.ntmps271
  go_wp2
  go_region_held3 (fun w'=>w'.cell? ⟨k,2,none⟩=some (.pointer (some ⟨j,0,none⟩))∧w'.cell? ⟨k,3,none⟩=some (.pointer (some ⟨m,0,none⟩))) (first|go_keep|exact ⟨k2,k3⟩) (fail)
  go_wp2
  go_region_held3 (fun w'=>w'.cell? ⟨k,2,none⟩=some (.pointer (some ⟨j,0,none⟩))∧w'.cell? ⟨k,3,none⟩=some (.pointer (some ⟨m,0,none⟩))) (first|go_keep|exact ⟨k2,k3⟩) (fail)
  go_wp2
  refine bodyPost_end (results_none rfl _ _ _) rfl ?_
  have b1:=(HB.out.far (p:=⟨j,3,none⟩) (fun e=>HJ.out e.symm) (.pointer (some ⟨m,0,none⟩))).far (p:=⟨m,2,none⟩) (fun e=>HM.out e.symm) (.pointer (some ⟨j,0,none⟩))
  have s1:=(SG.out.next (fun e he=>(HL.out e he).2.1) (some ⟨m,0,none⟩)).far (c:=⟨m,2,none⟩) (fun e he=>by
    rcases List.mem_append.1 he with he|he
    · exact (HL.out e he).2.2
    · rw [List.mem_singleton.1 he];exact HJM.out) (.pointer (some ⟨j,0,none⟩))
  have s2:=(SR.out.far (c:=⟨j,3,none⟩) (fun e he=>by
    rcases List.mem_cons.1 he with rfl|he
    · exact fun e=>HJM.out e.symm
    · exact (HR.out e he).2.1) (.pointer (some ⟨m,0,none⟩))).prev (fun e he=>(HR.out e he).2.2) (some ⟨j,0,none⟩)
  refine ⟨rfl,⟨⟨_,b1,rfl, ?_, ?_,fun i h0 h1=>rfl,segP_app.2 ⟨s1.drew.drew,by rw [lstP_app];exact s2.drew.drew⟩⟩,some ⟨j,0,none⟩,some ⟨m,0,none⟩,(BK.out.far (p:=⟨j,3,none⟩) HKJ.out _).far (p:=⟨m,2,none⟩) HKM.out _⟩,(((Upd.refl _ w).setCell (p:=⟨j,3,none⟩) (.inl (.inr ⟨(y,j),by simp,rfl⟩)) _).drew.setCell (p:=⟨m,2,none⟩) (.inl (.inr ⟨(z,m),by simp,rfl⟩)) _).drew⟩
  · rw [C0.out,fstP_app]
    cases l<;>rfl
  · rw [C1.out,lstP_app];rfl
theorem cut_any {x:Int} {k:Nat} {a b:List Sp} (hb:Blk w rb t cs) (c0:cs[o]? =some (.pointer (fstP (a++(x,k)::b) none))) (c1:cs[o+1]? =some (.pointer (lstP (a++(x,k)::b) none)))
    (sg:SegP w ⟨rb,o,none⟩ none (a++(x,k)::b) none) (nd:(blks (a++(x,k)::b)).Nodup) (hr: ∀e∈a++(x,k)::b,e.2≠rb):
    Calls Tryz.prog 271 #[.pointer (some ⟨rb,o,none⟩), .pointer (some ⟨k,0,none⟩)] w fun e w'=>e= .returned (.tuple #[])∧(RowNow w' rb o t cs (a++b)∧ ∃p n,Blk w' k 313 (spotC x ⟨rb,o,none⟩ p n))∧Upd (BlkOf rb (a++b)) w w':=by
  have hk:k≠rb:=hr (x,k) (by simp)
  have nd':=nd
  rw [blks,List.map_append,List.map_cons,List.nodup_append,List.nodup_cons] at nd'
  obtain ⟨n1,⟨n2,n3⟩,n4⟩:=nd'
  have hka: ∀e∈a,e.2≠k:=fun e he h=>n4 e.2 (List.mem_map.2 ⟨e,he,rfl⟩) k (List.mem_cons_self ..) h
  have hkb: ∀e∈b,e.2≠k:=fun e he h=>n2 (by rw [←h];exact List.mem_map.2 ⟨e,he,rfl⟩)
  have hab: ∀e∈a,∀f∈b,e.2≠f.2:=fun e he f hf h=>n4 e.2 (List.mem_map.2 ⟨e,he,rfl⟩) f.2 (List.mem_cons_of_mem _ (List.mem_map.2 ⟨f,hf,rfl⟩)) h
  rw [segP_mid] at sg
  obtain ⟨s1,bk,s2⟩:=sg
  rw [fstP_app] at c0
  rw [lstP_app] at c1
  rcases List.eq_nil_or_concat a with rfl|⟨a',⟨y,j⟩,rfl⟩
  · cases b with
    |nil=>exact cut_one hb c0 c1 ⟨bk,trivial⟩ hk
    | cons f b'=>
      obtain ⟨z,m⟩:=f
      rw [List.map_cons,List.nodup_cons] at n3
      refine cut_first hb c0 (v:= .pointer none) c1 ⟨bk,s2⟩ hk (hr (z,m) (by simp)) (fun e=>hkb (z,m) (by simp) e.symm) fun e he=>⟨hr e (by simp [he]),fun h=>n3.1 (List.mem_map.2 ⟨e,he,h⟩)⟩
  · rw [List.concat_eq_append] at*
    rw [List.map_append,List.nodup_append] at n1
    have hj: ∀e∈a',e.2≠j:=fun e he h=>n1.2.2 e.2 (List.mem_map.2 ⟨e,he,rfl⟩) j (by simp) h
    rw [lstP_app] at bk
    have c0':cs[o]? =some (.pointer (fstP (a'++ [(y,j)]) none)):=by rw [c0];cases a'<;>rfl
    cases b with
    | nil=>
      have h:=cut_last hb c0' c1 s1 bk hk (hr (y,j) (by simp)) (fun e=>hka (y,j) (by simp) e.symm) fun e he=>⟨hr e (by simp [he]),hj e he⟩
      rw [List.append_nil]
      exact h
    | cons f b'=>
      obtain ⟨z,m⟩:=f
      rw [List.map_cons,List.nodup_cons] at n3
      exact cut_mid hb c0' c1 s1 bk s2 hk (hr (y,j) (by simp)) (hr (z,m) (by simp)) (fun e=>hka (y,j) (by simp) e.symm) (fun e=>hkb (z,m) (by simp) e.symm) (hab (y,j) (by simp) (z,m) (by simp))
        (fun e he=>⟨hr e (by simp [he]),hj e he,hab e (by simp [he]) (z,m) (by simp)⟩)
        (fun e he=>⟨hr e (by simp [he]),fun h=>hab (y,j) (by simp) e (by simp [he]) h.symm,fun h=>n3.1 (List.mem_map.2 ⟨e,he,h⟩)⟩)
set_option maxRecDepth 100000 in
set_option maxHeartbeats 1000000 in
theorem add_one {x:Int} {k:Nat} {q p n:Option Addr} (hb:Blk w rb t cs) (c0:cs[o]? =some (.pointer none)) (c1:cs[o+1]? =some (.pointer none))
    (bk:Blk w k 313 #[.int .i64 x, .pointer q, .pointer p, .pointer n]) (hk:k≠rb):
    Calls Tryz.prog 274 #[.pointer (some ⟨rb,o,none⟩), .pointer (some ⟨k,0,none⟩)] w fun e w'=>e= .returned (.tuple #[])∧RowNow w' rb o t cs [(x,k)]∧Upd (fun c=>c=rb∨c=k) w w':=by
  have k1:w.cell? ⟨k,1,none⟩=some (.pointer q):=bk.cell 1
  have k2:w.cell? ⟨k,2,none⟩=some (.pointer p):=bk.cell 2
  have k3:w.cell? ⟨k,3,none⟩=some (.pointer n):=bk.cell 3
  have g1:w.frozen? ⟨k,1,none⟩=false:=bk.frozen 1
  have g2:w.frozen? ⟨k,2,none⟩=false:=bk.frozen 2
  have g3:w.frozen? ⟨k,3,none⟩=false:=bk.frozen 3
  have r0:w.cell? ⟨rb,o,none⟩=some (.pointer none):=by rw [hb.cell];exact c0
  have r1:w.cell? ⟨rb,o+1,none⟩=some (.pointer none):=by rw [hb.cell];exact c1
  have f0:w.frozen? ⟨rb,o,none⟩=false:=hb.frozen o
  have f1:w.frozen? ⟨rb,o+1,none⟩=false:=hb.frozen (o+1)
  have HB:=Lib.hid hb;have BK:=Lib.hid bk;have C0:=Lib.hid c0;have C1:=Lib.hid c1;have HK:=Lib.hid hk
  have hk':rb≠k:=fun h=>hk h.symm
  clear hb bk c0 c1
  go_enter Tryz.func274,Tryz.ntmps274
  go_wp2
  refine bodyPost_end (results_none rfl _ _ _) rfl ?_
  have b1:=((((HB.out.far (p:=⟨k,1,none⟩) hk' (.pointer (some ⟨rb,o,none⟩))).far (p:=⟨k,2,none⟩) hk' (.pointer none)).far (p:=⟨k,3,none⟩) hk' (.pointer none)).put o (.pointer (some ⟨k,0,none⟩))).put (o+1) (.pointer (some ⟨k,0,none⟩))
  have b2:=((((BK.out.put 1 (.pointer (some ⟨rb,o,none⟩))).put 2 (.pointer none)).put 3 (.pointer none)).far (p:=⟨rb,o,none⟩) HK.out (.pointer (some ⟨k,0,none⟩))).far (p:=⟨rb,o+1,none⟩) HK.out (.pointer (some ⟨k,0,none⟩))
  have u1:=(((((Upd.refl (fun c=>c=rb∨c=k) w).setCell (p:=⟨k,1,none⟩) (.inl (.inr rfl)) (.pointer (some ⟨rb,o,none⟩))).setCell (p:=⟨k,2,none⟩) (.inl (.inr rfl)) (.pointer none)).setCell (p:=⟨k,3,none⟩) (.inl (.inr rfl)) (.pointer none)).setCell (p:=⟨rb,o,none⟩) (.inl (.inl rfl)) (.pointer (some ⟨k,0,none⟩))).setCell (p:=⟨rb,o+1,none⟩) (.inl (.inl rfl)) (.pointer (some ⟨k,0,none⟩))
  refine ⟨rfl,⟨_,b1,by simp, ?_, ?_,fun i h0 h1=> ?_,by simpa [spotC,fstP] using b2,trivial⟩,u1⟩
  · rw [set_other (by omega)];exact set_same C0.out
  · exact set_same ((set_other (by omega)).trans C1.out)
  · rw [set_other h1,set_other h0]
set_option maxRecDepth 100000 in
set_option maxHeartbeats 1000000 in
theorem add_last {x y:Int} {k j:Nat} {l:List Sp} {q p n:Option Addr} (hb:Blk w rb t cs) (c0:cs[o]? =some (.pointer (fstP (l++ [(y,j)]) none))) (c1:cs[o+1]? =some (.pointer (some ⟨j,0,none⟩)))
    (sg:SegP w ⟨rb,o,none⟩ none (l++ [(y,j)]) none) (bk:Blk w k 313 #[.int .i64 x, .pointer q, .pointer p, .pointer n]) (hk:k≠rb) (hj:j≠rb) (hkj:k≠j) (hl: ∀e∈l,e.2≠rb∧e.2≠j∧e.2≠k):
    Calls Tryz.prog 274 #[.pointer (some ⟨rb,o,none⟩), .pointer (some ⟨k,0,none⟩)] w fun e w'=>e= .returned (.tuple #[])∧RowNow w' rb o t cs (l++ [(y,j)]++ [(x,k)])∧Upd (fun c=>BlkOf rb (l++ [(y,j)]) c∨c=k) w w':=by
  have bj:=(segP_last.1 sg).2
  have k1:w.cell? ⟨k,1,none⟩=some (.pointer q):=bk.cell 1
  have k2:w.cell? ⟨k,2,none⟩=some (.pointer p):=bk.cell 2
  have k3:w.cell? ⟨k,3,none⟩=some (.pointer n):=bk.cell 3
  have g1:w.frozen? ⟨k,1,none⟩=false:=bk.frozen 1
  have g2:w.frozen? ⟨k,2,none⟩=false:=bk.frozen 2
  have g3:w.frozen? ⟨k,3,none⟩=false:=bk.frozen 3
  have j3:w.cell? ⟨j,3,none⟩=some (.pointer none):=bj.cell 3
  have i3:w.frozen? ⟨j,3,none⟩=false:=bj.frozen 3
  have r1:w.cell? ⟨rb,o+1,none⟩=some (.pointer (some ⟨j,0,none⟩)):=by rw [hb.cell];exact c1
  have f1:w.frozen? ⟨rb,o+1,none⟩=false:=hb.frozen (o+1)
  have HB:=Lib.hid hb;have BK:=Lib.hid bk;have SG:=Lib.hid sg;have C0:=Lib.hid c0;have C1:=Lib.hid c1;have HK:=Lib.hid hk;have HJ:=Lib.hid hj;have HKJ:=Lib.hid hkj;have HL:=Lib.hid hl
  have hk':rb≠k:=fun h=>hk h.symm
  have hj':rb≠j:=fun h=>hj h.symm
  have hkj':j≠k:=fun h=>hkj h.symm
  clear hb bk bj sg c0 c1 hl
  go_enter Tryz.func274,Tryz.ntmps274
  go_wp2
  refine bodyPost_end (results_none rfl _ _ _) rfl ?_
  have b1:=((((HB.out.far (p:=⟨k,1,none⟩) hk' (.pointer (some ⟨rb,o,none⟩))).far (p:=⟨k,2,none⟩) hk' (.pointer (some ⟨j,0,none⟩))).far (p:=⟨k,3,none⟩) hk' (.pointer none)).far (p:=⟨j,3,none⟩) hj' (.pointer (some ⟨k,0,none⟩))).put (o+1) (.pointer (some ⟨k,0,none⟩))
  have b2:=((((BK.out.put 1 (.pointer (some ⟨rb,o,none⟩))).put 2 (.pointer (some ⟨j,0,none⟩))).put 3 (.pointer none)).far (p:=⟨j,3,none⟩) HKJ.out (.pointer (some ⟨k,0,none⟩))).far (p:=⟨rb,o+1,none⟩) HK.out (.pointer (some ⟨k,0,none⟩))
  have hlk: ∀e∈l++ [(y,j)],e.2≠k:=fun e he=>by
    rcases List.mem_append.1 he with he|he
    · exact (HL.out e he).2.2
    · rw [List.mem_singleton.1 he];exact hkj'
  have hlr: ∀e∈l++ [(y,j)],e.2≠rb:=fun e he=>by
    rcases List.mem_append.1 he with he|he
    · exact (HL.out e he).1
    · rw [List.mem_singleton.1 he];exact HJ.out
  have s1:=((((SG.out.far (c:=⟨k,1,none⟩) hlk (.pointer (some ⟨rb,o,none⟩))).far (c:=⟨k,2,none⟩) hlk (.pointer (some ⟨j,0,none⟩))).far (c:=⟨k,3,none⟩) hlk (.pointer none)).next (fun e he=>(HL.out e he).2.1) (some ⟨k,0,none⟩)).far (c:=⟨rb,o+1,none⟩) hlr (.pointer (some ⟨k,0,none⟩))
  have u1:=(((((Upd.refl (fun c=>BlkOf rb (l++ [(y,j)]) c∨c=k) w).setCell (p:=⟨k,1,none⟩) (.inl (.inr rfl)) (.pointer (some ⟨rb,o,none⟩))).setCell (p:=⟨k,2,none⟩) (.inl (.inr rfl)) (.pointer (some ⟨j,0,none⟩))).setCell (p:=⟨k,3,none⟩) (.inl (.inr rfl)) (.pointer none)).setCell (p:=⟨j,3,none⟩) (.inl (.inl (.inr ⟨(y,j),by simp,rfl⟩))) (.pointer (some ⟨k,0,none⟩))).setCell (p:=⟨rb,o+1,none⟩) (.inl (.inl (.inl rfl))) (.pointer (some ⟨k,0,none⟩))
  refine ⟨rfl,⟨_,b1,by simp, ?_, ?_,fun i h0 h1=> ?_,segP_last.2 ⟨s1, ?_⟩⟩,u1⟩
  · rw [set_other (by omega),C0.out,fstP_app]
    cases l<;>rfl
  · rw [lstP_app];exact set_same C1.out
  · rw [set_other h1]
  · rw [lstP_app];simpa [spotC,lstP] using b2
theorem add_any {x:Int} {k:Nat} {l:List Sp} {q p n:Option Addr} (hb:Blk w rb t cs) (c0:cs[o]? =some (.pointer (fstP l none))) (c1:cs[o+1]? =some (.pointer (lstP l none)))
    (sg:SegP w ⟨rb,o,none⟩ none l none) (bk:Blk w k 313 #[.int .i64 x, .pointer q, .pointer p, .pointer n]) (nd:(blks l).Nodup) (hk:k≠rb) (hl: ∀e∈l,e.2≠rb∧e.2≠k):
    Calls Tryz.prog 274 #[.pointer (some ⟨rb,o,none⟩), .pointer (some ⟨k,0,none⟩)] w fun e w'=>e= .returned (.tuple #[])∧RowNow w' rb o t cs (l++ [(x,k)])∧Upd (fun c=>BlkOf rb l c∨c=k) w w':=by
  rcases List.eq_nil_or_concat l with rfl|⟨l',⟨y,j⟩,rfl⟩
  · exact (add_one hb c0 c1 bk hk).mono fun e w' ⟨h1,h2,h3⟩=>⟨h1,h2,h3.mono fun c hc=>hc.imp .inl id⟩
  · rw [List.concat_eq_append] at*
    rw [lstP_app] at c1
    rw [blks,List.map_append,List.nodup_append] at nd
    exact add_last hb c0 c1 sg bk hk (hl (y,j) (by simp)).1 (fun e=>(hl (y,j) (by simp)).2 e.symm) fun e he=>⟨(hl e (by simp [he])).1,fun h=>nd.2.2 e.2 (List.mem_map.2 ⟨e,he,rfl⟩) j (by simp) h,(hl e (by simp [he])).2⟩
end
end Go.Proofs.YtippfeplogkaiaaGreatDoor
namespace Go.Proofs.YtippfeplogkaiaaGreatDoor
open Go.RowKit Go.Maps QueueMath
set_option linter.unusedVariables false
def spElem:Value→Option (DataW Unit×List MemPlace)
  | .pointer none=>some (.lit (.int .i64 (-1)), [])
  | .pointer (some ⟨b,0,none⟩)=>some (.lit (.int .i64 (b:Int)), [])
  |_=>none
theorem spElem_inv {v:Value} {k:Int} {ps:List MemPlace} (h:spElem v=some (.lit (.int .i64 k),ps)):(k= -1∧v= .pointer none)∨ ∃b:Nat,k=(b:Int)∧v= .pointer (some ⟨b,0,none⟩):=by
  unfold spElem at h
  split at h
  · simp only [Option.some.injEq,Prod.mk.injEq,DataW.lit.injEq,Lit.int.injEq] at h
    exact .inl ⟨h.1.2.symm,rfl⟩
  · rename_i b
    simp only [Option.some.injEq,Prod.mk.injEq,DataW.lit.injEq,Lit.int.injEq] at h
    exact .inr ⟨b,h.1.2.symm,rfl⟩
  · cases h
theorem keyQ:Keyed Tryz.prog 3:=int_keyed Tryz.underlying3
theorem zeroSp (w:World):(zeroValue 272).run Tryz.prog w= .ok (.pointer none) w:=by kernel_rfl
abbrev nilD:DataW Unit:= .lit (.int .i64 (-1))
structure AtMap (D:DataW Unit) (l:List Sp):Prop where
  there: ∀e∈l,D.atKey (.int .i64 e.1) nilD= .lit (.int .i64 (e.2:Int))
  none: ∀x:Int,x∉l.map (fun e=>e.1)→D.atKey (.int .i64 x) nilD=nilD
theorem atMap_nil:AtMap (.map []) []:=⟨fun e h=>(by cases h),fun x _=>rfl⟩
theorem AtMap.perm {D:DataW Unit} {l l':List Sp} (h:AtMap D l) (hp:l.Perm l'):AtMap D l':=
  ⟨fun e he=>h.there e (hp.mem_iff.2 he),fun x hx=>h.none x fun hm=>hx ((hp.map _).mem_iff.1 hm)⟩
theorem AtMap.put {D:DataW Unit} {l:List Sp} (h:AtMap D l) (hD:IsMap D) {x:Int} {k:Nat} (hx:x∉l.map (fun e=>e.1)):AtMap (D.put (.int .i64 x) (.lit (.int .i64 (k:Int)))) ((x,k)::l):=by
  refine ⟨fun e he=> ?_,fun y hy=> ?_⟩
  · rcases List.mem_cons.1 he with rfl|he
    · exact atKey_put_same hD (by trivial) _ _
    · rw [atKey_put_other (fun hh=> ?_)]
      · exact h.there e he
      · injection hh with _ hh;exact hx (by rw [←hh];exact List.mem_map.2 ⟨e,he,rfl⟩)
  · rw [List.map_cons,List.mem_cons,not_or] at hy
    rw [atKey_put_other (fun hh=>by injection hh with _ hh;exact hy.1 hh)]
    exact h.none y hy.2
theorem AtMap.del {D:DataW Unit} {l:List Sp} {x:Int} {k:Nat} (h:AtMap D ((x,k)::l)) (hx:x∉l.map (fun e=>e.1)):AtMap (D.del (.int .i64 x)) l:=by
  refine ⟨fun e he=> ?_,fun y hy=> ?_⟩
  · rw [atKey_del_other (fun hh=> ?_)]
    · exact h.there e (List.mem_cons_of_mem _ he)
    · injection hh with _ hh;exact hx (by rw [←hh];exact List.mem_map.2 ⟨e,he,rfl⟩)
  · by_cases e:y=x
    · subst e;exact atKey_del_same _
    · rw [atKey_del_other (fun hh=>by injection hh with _ hh;exact e hh)]
      exact h.none y (by rw [List.map_cons,List.mem_cons,not_or];exact ⟨e,hy⟩)
theorem size_del {D:DataW Unit} {kl:Lit} {z:DataW Unit} (h:D.atKey kl z≠z):Maps.size (D.del kl)+1≤Maps.size D:=by
  cases D<;>try exact absurd rfl h
  rename_i es
  show (es.filter fun p=> !p.1.sameKey kl).length+1≤es.length
  have hex: ∃p∈es,p.1.sameKey kl=true:=by
    cases hf:es.find? (fun p=>p.1.sameKey kl) with
    |none=>exact (h (by simp only [DataW.atKey,hf])).elim
    |some p=>exact ⟨p,List.mem_of_find?_eq_some hf,by simpa using List.find?_some hf⟩
  obtain ⟨p,hp,hs⟩:=hex
  have hlt:(es.filter fun p=> !p.1.sameKey kl).length<es.length:=by
    refine Nat.lt_of_le_of_ne (List.length_filter_le _ _) fun he=> ?_
    have:=List.length_filter_eq_length_iff.1 he p hp
    rw [hs] at this;cases this
  exact hlt
theorem ownsMap_tight {w:World} {P:Program} {k:TypeId} {R:Value→Option (DataW Unit×List MemPlace)} {b n m:Nat} {D:DataW Unit} (h:w.ownsMap P k R b n D) (hm:Maps.size D≤m):w.ownsMap P k R b m D:=by
  obtain ⟨es,clock,hb,F,hs,rfl⟩:=h
  refine ⟨es,clock,hb,F, ?_,rfl⟩
  simpa [Maps.size,length_sorted] using hm
theorem upd_turned {w w':World} {b:Nat} (h:w.mapTurned w' b):Upd (fun k=>k=b) w w':=by
  obtain ⟨es,clock,es',clock',hb,rfl⟩:=h
  exact ⟨rfl,rfl,rfl,by simp [ChangeMaps.setBlock],fun k _ hk=>ChangeMaps.heap_setBlock_other hb _ (fun e=>hk e)⟩
abbrev nums (l:List Sp):List Int:=l.map fun e=>e.1
structure RowsAt (w:World) (rb mb:Nat) (R F:List Sp):Prop where
  blk:Blk w rb 309 #[.pointer (fstP R none), .pointer (lstP R none), .pointer (fstP F none), .pointer (lstP F none), .map (some mb)]
  sr:SegP w ⟨rb,0,none⟩ none R none
  sf:SegP w ⟨rb,2,none⟩ none F none
  mp: ∃D,w.ownsMap Tryz.prog 3 spElem mb (R++F).length D∧AtMap D (R++F)
  nd:(blks (R++F)).Nodup
  nn:(nums (R++F)).Nodup
  ne: ∀e∈R++F,e.2≠rb∧e.2≠mb∧e.2<w.heap.size
  nm:mb≠rb
  i64: ∀e∈R++F,I64 e.1
section
variable {w w':World} {rb mb:Nat} {R F:List Sp}
theorem RowsAt.upd {S:Nat→Prop} (h:RowsAt w rb mb R F) (u:Upd S w w') (h1: ¬S rb) (h2: ¬S mb) (h3: ∀e∈R++F,¬S e.2):RowsAt w' rb mb R F:=by
  obtain ⟨D,hD,hA⟩:=h.mp
  exact ⟨h.blk.upd u h1,h.sr.upd u fun e he=>h3 e (List.mem_append_left _ he),h.sf.upd u fun e he=>h3 e (List.mem_append_right _ he),⟨D,ownsMap_upd hD u h2,hA⟩,h.nd,h.nn,fun e he=>⟨(h.ne e he).1,(h.ne e he).2.1,Nat.lt_of_lt_of_le (h.ne e he).2.2 u.size⟩,h.nm,h.i64⟩
end
def RwsN (w:World) (rb:Nat) (O:Nat→Prop) (S:QR):Prop:= ∃mb R F,RowsAt w rb mb R F∧S=⟨nums R,nums F⟩∧O rb∧O mb∧ ∀e∈R++F,O e.2
theorem RwsN.upd {w w':World} {rb:Nat} {O S':Nat→Prop} {S:QR} (h:RwsN w rb O S) (u:Upd S' w w') (hs: ∀k,S' k→ ¬O k):RwsN w' rb O S:=by
  obtain ⟨mb,R,F,h,rfl,h1,h2,h3⟩:=h
  exact ⟨mb,R,F,h.upd u (fun x=>hs _ x h1) (fun x=>hs _ x h2) (fun e he x=>hs _ x (h3 e he)),rfl,h1,h2,h3⟩
theorem RwsN.mono {w:World} {rb:Nat} {O O':Nat→Prop} {S:QR} (h:RwsN w rb O S) (hO: ∀k,O k→O' k):RwsN w rb O' S:=by
  obtain ⟨mb,R,F,h,rfl,h1,h2,h3⟩:=h
  exact ⟨mb,R,F,h,rfl,hO _ h1,hO _ h2,fun e he=>hO _ (h3 e he)⟩
theorem nums_all (R F:List Sp):QR.all ⟨nums R,nums F⟩=nums (R++F):=(List.map_append ..).symm
set_option maxRecDepth 100000 in
theorem find_nil (w:World) (x:Int):Calls Tryz.prog 270 #[.pointer none, .int .i64 x] w fun e w'=>e= .returned (.pointer none)∧w=w':=by
  go_enter Tryz.func270,Tryz.ntmps270
  go_wp2
  go_ret
  exact ⟨rfl,rfl⟩
set_option maxRecDepth 100000 in
set_option maxHeartbeats 1000000 in
theorem find_rows {w:World} {rb mb:Nat} {R F:List Sp} (h:RowsAt w rb mb R F) {x:Int} (hx:I64 x):
    Calls Tryz.prog 270 #[.pointer (some ⟨rb,0,none⟩), .int .i64 x] w fun e w'=>(∃s,e= .returned (.pointer s)∧((s=none∧x∉nums (R++F))∨ ∃k,s=some ⟨k,0,none⟩∧(x,k)∈R++F))∧w=w':=by
  obtain ⟨D,hD,hA⟩:=h.mp
  have c4:w.cell? ⟨rb,4,none⟩=some (.map (some mb)):=h.blk.cell 4
  have hl: ∃s,(∀w2,w2=w→(Instr.lookup 307 (.map (some mb)) (.int .i64 x) false).run Tryz.prog w2= .ok (.pointer s) w2)∧((s=none∧x∉nums (R++F))∨ ∃k,s=some ⟨k,0,none⟩∧(x,k)∈R++F):=by
    obtain ⟨v,ps,hrun,hv⟩:=hD.lookup keyQ Tryz.underlying307 (zeroSp w) (show spElem (.pointer none)=some (nilD, []) from rfl) (show keyOf Tryz.prog 3 (.int .i64 x)=some (.int .i64 x) from keyOf_int_mk Tryz.underlying3 hx.wf)
    by_cases hm:x∈nums (R++F)
    · obtain ⟨⟨x',k⟩,he,rfl⟩:=List.mem_map.1 hm
      rw [hA.there _ he] at hv
      rcases spElem_inv hv with ⟨h1,_⟩|⟨b,h1,rfl⟩
      · simp only at h1;omega
      · have h1':(k:Int)=(b:Int):=h1
        obtain rfl:k=b:=by omega
        exact ⟨_,fun w2 e=>by rw [e];exact hrun, .inr ⟨k,rfl,he⟩⟩
    · rw [hA.none x hm] at hv
      rcases spElem_inv hv with ⟨_,rfl⟩|⟨b,h1,_⟩
      · exact ⟨_,fun w2 e=>by rw [e];exact hrun, .inl ⟨rfl,hm⟩⟩
      · omega
  obtain ⟨s,hrun,hs⟩:=hl
  have hr:=hrun w rfl
  have HS:=Lib.hid hs
  clear hrun hs h hD hA
  go_enter Tryz.func270,Tryz.ntmps270
  go_wp2
  go_ret
  exact ⟨⟨s,rfl,HS.out⟩,rfl⟩
end Go.Proofs.YtippfeplogkaiaaGreatDoor
namespace Go.Proofs.YtippfeplogkaiaaGreatDoor
open Go.RowKit Go.Maps QueueMath
set_option linter.unusedVariables false
abbrev RW:Nat:=270
section
variable {w:World} {rb mb k o:Nat} {x:Int} {t:TypeId} {cs:Array Value}
set_option maxRecDepth 100000 in
theorem push_there1 (FN:Calls Tryz.prog 270 #[.pointer (some ⟨rb,0,none⟩), .int .i64 x] w fun e w'=>e= .returned (.pointer (some ⟨k,0,none⟩))∧w=w'):
    Calls Tryz.prog 280 #[.pointer (some ⟨rb,0,none⟩), .int .i64 x] w fun e w'=>e= .returned (.int .i64 6)∧w=w':=by
  have FN:=Lib.hid FN
  go_enter Tryz.func280,Tryz.ntmps280
  go_wp2_with fail
  refine FN.out.mono ?_;rintro e w1 ⟨rfl,rfl⟩
  go_wp2
  go_ret
  exact ⟨rfl,rfl⟩
set_option maxRecDepth 100000 in
set_option maxHeartbeats 1000000 in
theorem push_new1 {n:Nat} {D:DataW Unit} {Q:World→Prop} (hx:I64 x) (FN:Calls Tryz.prog 270 #[.pointer (some ⟨rb,0,none⟩), .int .i64 x] w fun e w'=>e= .returned (.pointer none)∧w=w')
    (c4:w.cell? ⟨rb,4,none⟩=some (.map (some mb))) (hD:w.ownsMap Tryz.prog 3 spElem mb n D) (hn:n≤many) (hk:k=w.heap.size)
    (AD: ∀w2,w2.ownsMap Tryz.prog 3 spElem mb (n+1) (D.put (.int .i64 x) (.lit (.int .i64 (k:Int))))→(w.alloc (.cells #[.int .i64 x, .pointer none, .pointer none, .pointer none] 313)).mapTurned w2 mb→
      Calls Tryz.prog 274 #[.pointer (some ⟨rb,0,none⟩), .pointer (some ⟨k,0,none⟩)] w2 fun e w'=>e= .returned (.tuple #[])∧Q w'):
    Calls Tryz.prog 280 #[.pointer (some ⟨rb,0,none⟩), .int .i64 x] w fun e w'=>e= .returned (.int .i64 0)∧Q w':=by
  subst hk
  have hn':n≤1000000:=hn
  have KEY:=Lib.hid (keyOf_int_mk (P:=Tryz.prog) Tryz.underlying3 hx.wf)
  have VAL:=Lib.hid (show spElem (.pointer (some ⟨w.heap.size,0,none⟩))=some (.lit (.int .i64 (w.heap.size:Int)), []) from rfl)
  have FN:=Lib.hid FN;have M:=Lib.hid (hD.alloc (.cells #[.int .i64 x, .pointer none, .pointer none, .pointer none] 313));have AD:=Lib.hid AD
  have hlt:w.heap.size≠rb:=fun e=>by have:=World.block_lt_of_cell? w _ c4;simp only at this;omega
  have c4':(w.alloc (.cells #[.int .i64 x, .pointer none, .pointer none, .pointer none] 313)).cell? ⟨rb,4,none⟩=some (.map (some mb)):=by rw [Below.cell ((Below.refl _ w).alloc (Nat.le_refl _) _) (by have:=World.block_lt_of_cell? w _ c4;exact this)];exact c4
  clear hD hn
  go_enter Tryz.func280,Tryz.ntmps280
  go_wp2_with fail
  refine FN.out.mono ?_;rintro e w1 ⟨rfl,rfl⟩
  go_wp2_with (at_mapUpdate;refine wpList_mapUpdate_in _ rfl _ _ _ 307 rfl 3 272 keyQ Tryz.underlying307 _ mb n D rfl M.out (by unfold maxLen;omega) _ _ _ rfl rfl KEY.out _ [] VAL.out ?_;intro w9 hown1 hturn1;have K9:=Lib.hid (AD.out w9 hown1 hturn1);clear hown1 hturn1)
  go_wp2_with fail
  refine K9.out.mono ?_;rintro e w2 ⟨rfl,hq⟩
  have HQ:=Lib.hid hq
  clear hq
  go_wp2
  go_ret
  exact ⟨rfl,HQ.out⟩
set_option maxRecDepth 100000 in
theorem remove_none1 {p:Option Addr} (FN:Calls Tryz.prog 270 #[.pointer p, .int .i64 x] w fun e w'=>e= .returned (.pointer none)∧w=w'):
    Calls Tryz.prog 248 #[.pointer p, .int .i64 x] w fun e w'=>e= .returned (.int .i64 5)∧w=w':=by
  have FN:=Lib.hid FN
  go_enter Tryz.func248,Tryz.ntmps248
  go_wp2_with fail
  refine FN.out.mono ?_;rintro e w1 ⟨rfl,rfl⟩
  go_wp2
  go_ret
  exact ⟨rfl,rfl⟩
set_option maxRecDepth 100000 in
set_option maxHeartbeats 1000000 in
theorem remove_there1 {n:Nat} {D:DataW Unit} {Q Q':World→Prop} (hx:I64 x) (FN:Calls Tryz.prog 270 #[.pointer (some ⟨rb,0,none⟩), .int .i64 x] w fun e w'=>e= .returned (.pointer (some ⟨k,0,none⟩))∧w=w')
    (c1:w.cell? ⟨k,1,none⟩=some (.pointer (some ⟨rb,o,none⟩)))
    (CT:Calls Tryz.prog 271 #[.pointer (some ⟨rb,o,none⟩), .pointer (some ⟨k,0,none⟩)] w fun e w'=>e= .returned (.tuple #[])∧Q w')
    (hQ: ∀w1,Q w1→w1.cell? ⟨rb,4,none⟩=some (.map (some mb))∧w1.ownsMap Tryz.prog 3 spElem mb n D)
    (hQ': ∀w1 w2,Q w1→w2.ownsMap Tryz.prog 3 spElem mb n (D.del (.int .i64 x))→w1.mapTurned w2 mb→Q' w2):
    Calls Tryz.prog 248 #[.pointer (some ⟨rb,0,none⟩), .int .i64 x] w fun e w'=>e= .returned (.int .i64 0)∧Q' w':=by
  have KEY:=Lib.hid (keyOf_int_mk (P:=Tryz.prog) Tryz.underlying3 hx.wf)
  have FN:=Lib.hid FN;have CT:=Lib.hid CT;have HQ:=Lib.hid hQ;have HQ':=Lib.hid hQ'
  clear hQ hQ'
  go_enter Tryz.func248,Tryz.ntmps248
  go_wp2_with fail
  refine FN.out.mono ?_;rintro e w1 ⟨rfl,rfl⟩
  go_wp2_with fail
  refine CT.out.mono ?_;rintro e w2 ⟨rfl,hq⟩
  obtain ⟨c4,hD⟩:=HQ.out w2 hq
  have Q2:=Lib.hid hq;have M:=Lib.hid hD
  clear hq hD c1
  go_wp2_with (at_delete;refine wpList_delete_own _ rfl _ _ 307 3 rfl 272 keyQ Tryz.underlying307 _ mb n D rfl M.out _ _ rfl KEY.out ?_;intro w9 hown1 hturn1;have K9:=Lib.hid (HQ'.out w2 w9 Q2.out hown1 hturn1);clear hown1 hturn1)
  go_wp2
  go_ret
  exact ⟨rfl,K9.out⟩
theorem neq_rows {w:World} {a b:Addr} {ta tb:TypeId} {ca cb:Array Value} (hb:Blk w b.block tb cb) (ha:Blk w a.block ta ca) (hne:a≠b):
    (binOp .neq 311 (.pointer (some a)) (.pointer (some b))).run Tryz.prog w= .ok (.bool true) w:=by
  have hi:(Tryz.prog.info? 274).map (fun j=>j.size)=some 2:=by kernel_rfl
  cases hj:Tryz.prog.info? 274 with
  |none=>rw [hj] at hi;cases hi
  | some j=>
    rw [hj] at hi
    exact run_neq_ptr_other Tryz.underlying311 hj (by simp at hi;omega) hne ha hb
theorem eq_rows (w:World) (a:Addr):(binOp .neq 311 (.pointer (some a)) (.pointer (some a))).run Tryz.prog w= .ok (.bool false) w:=by
  have hi:(Tryz.prog.info? 274).map (fun j=>j.size)=some 2:=by kernel_rfl
  cases hj:Tryz.prog.info? 274 with
  |none=>rw [hj] at hi;cases hi
  |some j=>exact run_neq_ptr_same a Tryz.underlying311 hj
set_option maxRecDepth 100000 in
theorem fill_none1 {p:Option Addr} (FN:Calls Tryz.prog 270 #[.pointer p, .int .i64 x] w fun e w'=>e= .returned (.pointer none)∧w=w'):
    Calls Tryz.prog 251 #[.pointer p, .int .i64 x] w fun e w'=>e= .returned (.int .i64 5)∧Upd (fun _=>False) w w':=by
  have FN:=Lib.hid FN
  go_enter Tryz.func251,Tryz.ntmps251
  go_wp2_with fail
  refine FN.out.mono ?_;rintro e w1 ⟨rfl,rfl⟩
  go_wp2
  go_quiet (fail)
  go_wp2
  go_ret
  exact ⟨rfl,⟨rfl,rfl,rfl,Nat.le_refl _,fun _ _ _=>rfl⟩⟩
set_option maxRecDepth 100000 in
set_option maxHeartbeats 1000000 in
theorem fill_other1 (FN:Calls Tryz.prog 270 #[.pointer (some ⟨rb,0,none⟩), .int .i64 x] w fun e w'=>e= .returned (.pointer (some ⟨k,0,none⟩))∧w=w')
    (c1:w.cell? ⟨k,1,none⟩=some (.pointer (some ⟨rb,2,none⟩))) (hb:Blk w rb t cs):
    Calls Tryz.prog 251 #[.pointer (some ⟨rb,0,none⟩), .int .i64 x] w fun e w'=>e= .returned (.int .i64 5)∧Upd (fun _=>False) w w':=by
  have NE:=neq_rows (w:=w.drew) (b:=⟨rb,0,none⟩) hb (a:=⟨rb,2,none⟩) hb (by simp)
  have FN:=Lib.hid FN
  go_enter Tryz.func251,Tryz.ntmps251
  go_wp2_with fail
  refine FN.out.mono ?_;rintro e w1 ⟨rfl,rfl⟩
  go_wp2
  go_region_held3 (fun w'=>w'.cell? ⟨k,1,none⟩=some (.pointer (some ⟨rb,2,none⟩))∧(binOp .neq 311 (.pointer (some ⟨rb,2,none⟩)) (.pointer (some ⟨rb,0,none⟩))).run Tryz.prog w'= .ok (.bool true) w') (first|go_keep|exact ⟨c1,NE⟩) (fail)
  go_wp2
  go_ret
  exact ⟨rfl,⟨rfl,rfl,rfl,Nat.le_refl _,fun _ _ _=>rfl⟩⟩
set_option maxRecDepth 100000 in
set_option maxHeartbeats 1000000 in
theorem fill_there1 {Q Q':World→Prop} (FN:Calls Tryz.prog 270 #[.pointer (some ⟨rb,0,none⟩), .int .i64 x] w fun e w'=>e= .returned (.pointer (some ⟨k,0,none⟩))∧w=w')
    (c1:w.cell? ⟨k,1,none⟩=some (.pointer (some ⟨rb,0,none⟩)))
    (CT:Calls Tryz.prog 271 #[.pointer (some ⟨rb,0,none⟩), .pointer (some ⟨k,0,none⟩)] w.drew fun e w'=>e= .returned (.tuple #[])∧Q w')
    (AD: ∀w1,Q w1→Calls Tryz.prog 274 #[.pointer (some ⟨rb,2,none⟩), .pointer (some ⟨k,0,none⟩)] w1 fun e w'=>e= .returned (.tuple #[])∧Q' w'):
    Calls Tryz.prog 251 #[.pointer (some ⟨rb,0,none⟩), .int .i64 x] w fun e w'=>e= .returned (.int .i64 0)∧Q' w':=by
  have NE:=eq_rows w.drew ⟨rb,0,none⟩
  have FN:=Lib.hid FN;have CT:=Lib.hid CT;have AD:=Lib.hid AD
  go_enter Tryz.func251,Tryz.ntmps251
  go_wp2_with fail
  refine FN.out.mono ?_;rintro e w1 ⟨rfl,rfl⟩
  go_wp2
  go_region_held3 (fun w'=>w'.cell? ⟨k,1,none⟩=some (.pointer (some ⟨rb,0,none⟩))∧(binOp .neq 311 (.pointer (some ⟨rb,0,none⟩)) (.pointer (some ⟨rb,0,none⟩))).run Tryz.prog w'= .ok (.bool false) w') (first|go_keep|exact ⟨c1,NE⟩) (fail)
  go_wp2_with fail
  refine CT.out.mono ?_;rintro e w2 ⟨rfl,hq⟩
  have K2:=Lib.hid (AD.out w2 hq)
  clear hq
  go_wp2_with fail
  refine K2.out.mono ?_;rintro e w3 ⟨rfl,hq⟩
  have Q3:=Lib.hid hq
  clear hq
  go_wp2
  go_ret
  exact ⟨rfl,Q3.out⟩
set_option maxRecDepth 100000 in
theorem wake_none1 {p:Option Addr} (FN:Calls Tryz.prog 270 #[.pointer p, .int .i64 x] w fun e w'=>e= .returned (.pointer none)∧w=w'):
    Calls Tryz.prog 281 #[.pointer p, .int .i64 x] w fun e w'=>e= .returned (.int .i64 5)∧Upd (fun _=>False) w w':=by
  have FN:=Lib.hid FN
  go_enter Tryz.func281,Tryz.ntmps281
  go_wp2_with fail
  refine FN.out.mono ?_;rintro e w1 ⟨rfl,rfl⟩
  go_wp2
  go_quiet (fail)
  go_wp2
  go_ret
  exact ⟨rfl,⟨rfl,rfl,rfl,Nat.le_refl _,fun _ _ _=>rfl⟩⟩
set_option maxRecDepth 100000 in
set_option maxHeartbeats 1000000 in
theorem wake_other1 (FN:Calls Tryz.prog 270 #[.pointer (some ⟨rb,0,none⟩), .int .i64 x] w fun e w'=>e= .returned (.pointer (some ⟨k,0,none⟩))∧w=w')
    (c1:w.cell? ⟨k,1,none⟩=some (.pointer (some ⟨rb,0,none⟩))) (hb:Blk w rb t cs):
    Calls Tryz.prog 281 #[.pointer (some ⟨rb,0,none⟩), .int .i64 x] w fun e w'=>e= .returned (.int .i64 5)∧Upd (fun _=>False) w w':=by
  have NE:=neq_rows (w:=w.drew) (b:=⟨rb,2,none⟩) hb (a:=⟨rb,0,none⟩) hb (by simp)
  have FN:=Lib.hid FN
  go_enter Tryz.func281,Tryz.ntmps281
  go_wp2_with fail
  refine FN.out.mono ?_;rintro e w1 ⟨rfl,rfl⟩
  go_wp2
  go_region_held3 (fun w'=>w'.cell? ⟨k,1,none⟩=some (.pointer (some ⟨rb,0,none⟩))∧(binOp .neq 311 (.pointer (some ⟨rb,0,none⟩)) (.pointer (some ⟨rb,2,none⟩))).run Tryz.prog w'= .ok (.bool true) w') (first|go_keep|exact ⟨c1,NE⟩) (fail)
  go_wp2
  go_ret
  exact ⟨rfl,⟨rfl,rfl,rfl,Nat.le_refl _,fun _ _ _=>rfl⟩⟩
set_option maxRecDepth 100000 in
set_option maxHeartbeats 1000000 in
theorem wake_there1 {Q Q':World→Prop} (FN:Calls Tryz.prog 270 #[.pointer (some ⟨rb,0,none⟩), .int .i64 x] w fun e w'=>e= .returned (.pointer (some ⟨k,0,none⟩))∧w=w')
    (c1:w.cell? ⟨k,1,none⟩=some (.pointer (some ⟨rb,2,none⟩)))
    (CT:Calls Tryz.prog 271 #[.pointer (some ⟨rb,2,none⟩), .pointer (some ⟨k,0,none⟩)] w.drew fun e w'=>e= .returned (.tuple #[])∧Q w')
    (AD: ∀w1,Q w1→Calls Tryz.prog 274 #[.pointer (some ⟨rb,0,none⟩), .pointer (some ⟨k,0,none⟩)] w1 fun e w'=>e= .returned (.tuple #[])∧Q' w'):
    Calls Tryz.prog 281 #[.pointer (some ⟨rb,0,none⟩), .int .i64 x] w fun e w'=>e= .returned (.int .i64 0)∧Q' w':=by
  have NE:=eq_rows w.drew ⟨rb,2,none⟩
  have FN:=Lib.hid FN;have CT:=Lib.hid CT;have AD:=Lib.hid AD
  go_enter Tryz.func281,Tryz.ntmps281
  go_wp2_with fail
  refine FN.out.mono ?_;rintro e w1 ⟨rfl,rfl⟩
  go_wp2
  go_region_held3 (fun w'=>w'.cell? ⟨k,1,none⟩=some (.pointer (some ⟨rb,2,none⟩))∧(binOp .neq 311 (.pointer (some ⟨rb,2,none⟩)) (.pointer (some ⟨rb,2,none⟩))).run Tryz.prog w'= .ok (.bool false) w') (first|go_keep|exact ⟨c1,NE⟩) (fail)
  go_wp2_with fail
  refine CT.out.mono ?_;rintro e w2 ⟨rfl,hq⟩
  have K2:=Lib.hid (AD.out w2 hq)
  clear hq
  go_wp2_with fail
  refine K2.out.mono ?_;rintro e w3 ⟨rfl,hq⟩
  have Q3:=Lib.hid hq
  clear hq
  go_wp2
  go_ret
  exact ⟨rfl,Q3.out⟩
end
end Go.Proofs.YtippfeplogkaiaaGreatDoor
namespace Go.Proofs.YtippfeplogkaiaaGreatDoor
open Go.RowKit Go.Maps QueueMath
set_option linter.unusedVariables false
theorem rows_lit {cs:Array Value} {a b c d e:Value} (hs:cs.size=5) (h0:cs[0]? =some a) (h1:cs[1]? =some b) (h2:cs[2]? =some c) (h3:cs[3]? =some d) (h4:cs[4]? =some e):cs= #[a,b,c,d,e]:=by
  apply Array.ext
  · rw [hs];rfl
  · intro i hi hj
    have h:cs[i]? = #[a,b,c,d,e][i]? :=by
      match i,hi with
      |0,_=>exact h0
      |1,_=>exact h1
      |2,_=>exact h2
      |3,_=>exact h3
      |4,_=>exact h4
      |n+5,hi=>omega
    rw [Array.getElem?_eq_getElem hi,Array.getElem?_eq_getElem hj] at h
    injection h
theorem now_ready {w:World} {rb:Nat} {t:TypeId} {l:List Sp} {r1 r2 f1 f2 m:Value} (h:RowNow w rb 0 t #[r1,r2,f1,f2,m] l):Blk w rb t #[.pointer (fstP l none), .pointer (lstP l none),f1,f2,m]∧SegP w ⟨rb,0,none⟩ none l none:=by
  obtain ⟨cs,hb,hs,h0,h1,hc,hg⟩:=h
  rw [rows_lit hs h0 h1 (hc 2 (by decide) (by decide)) (hc 3 (by decide) (by decide)) (hc 4 (by decide) (by decide))] at hb
  exact ⟨hb,hg⟩
theorem now_full {w:World} {rb:Nat} {t:TypeId} {l:List Sp} {r1 r2 f1 f2 m:Value} (h:RowNow w rb 2 t #[r1,r2,f1,f2,m] l):Blk w rb t #[r1,r2, .pointer (fstP l none), .pointer (lstP l none),m]∧SegP w ⟨rb,2,none⟩ none l none:=by
  obtain ⟨cs,hb,hs,h0,h1,hc,hg⟩:=h
  rw [rows_lit hs (hc 0 (by decide) (by decide)) (hc 1 (by decide) (by decide)) h0 h1 (hc 4 (by decide) (by decide))] at hb
  exact ⟨hb,hg⟩
theorem one_place {l:List Sp} (nn:(nums l).Nodup) {x:Int} {k k':Nat} (h:(x,k)∈l) (h':(x,k')∈l):k=k':=by
  induction l with
  |nil=>cases h
  | cons e t ih=>
    rw [nums,List.map_cons,List.nodup_cons] at nn
    rcases List.mem_cons.1 h with rfl|h3
    · rcases List.mem_cons.1 h' with e'|h'
      · injection e' with _ e';exact e'.symm
      · exact absurd (List.mem_map.2 ⟨_,h',rfl⟩) nn.1
    · rcases List.mem_cons.1 h' with e'|h4
      · exact absurd (show e.1∈nums t from List.mem_map.2 ⟨(x,k),h3,by rw [←e']⟩) nn.1
      · exact ih nn.2 h3 h4
def Own (rb mb:Nat) (l:List Sp) (c:Nat):Prop:=c=rb∨c=mb∨ ∃e∈l,c=e.2
section
variable {w w':World} {rb mb k:Nat} {x:Int} {R F a b:List Sp}
theorem RowsAt.made {w:World} {rb mb:Nat} {R F l:List Sp} {D:DataW Unit} (blk:Blk w rb 309 #[.pointer (fstP R none), .pointer (lstP R none), .pointer (fstP F none), .pointer (lstP F none), .map (some mb)])
    (sr:SegP w ⟨rb,0,none⟩ none R none) (sf:SegP w ⟨rb,2,none⟩ none F none) (hD:w.ownsMap Tryz.prog 3 spElem mb l.length D) (hA:AtMap D l) (hp:l.Perm (R++F)) (nd:(blks l).Nodup) (nn:(nums l).Nodup)
    (ne: ∀e∈l,e.2≠rb∧e.2≠mb∧e.2<w.heap.size) (nm:mb≠rb) (i64: ∀e∈l,I64 e.1):RowsAt w rb mb R F:=
  ⟨blk,sr,sf,⟨D,by rw [←hp.length_eq];exact hD,hA.perm hp⟩,(hp.map _).nodup_iff.1 nd,(hp.map _).nodup_iff.1 nn,fun e he=>ne e (hp.mem_iff.2 he),nm,fun e he=>i64 e (hp.mem_iff.2 he)⟩
theorem RowsAt.len (h:RowsAt w rb mb R F):(QR.all ⟨nums R,nums F⟩).length=(R++F).length:=by rw [nums_all];exact List.length_map _
theorem rows_push (h:RowsAt w rb mb R F) (hx:I64 x) (hn:x∉nums (R++F)) (hm:(R++F).length≤many):
    Calls Tryz.prog 280 #[.pointer (some ⟨rb,0,none⟩), .int .i64 x] w fun e w'=>e= .returned (.int .i64 0)∧RowsAt w' rb mb (R++ [(x,w.heap.size)]) F∧Upd (Own rb mb (R++F)) w w':=by
  obtain ⟨D,hD,hA⟩:=h.mp
  have hk: ∀e∈R++F,e.2≠w.heap.size:=fun e he=>by have:=(h.ne e he).2.2;omega
  have hrk:rb≠w.heap.size:=by have:=h.blk.lt;omega
  have hmk:mb≠w.heap.size:=by have:=hD.lt;omega
  refine push_new1 hx ((find_rows h hx).mono fun e w' ⟨⟨s,h1,h2⟩,h3⟩=>⟨?_,h3⟩) (h.blk.cell 4) hD hm rfl fun w2 hown hturn=> ?_
  · rcases h2 with ⟨rfl,_⟩|⟨k,rfl,h4⟩
    · exact h1
    · exact absurd (List.mem_map.2 ⟨_,h4,rfl⟩) hn
  · have u1:=(Upd.refl (fun _=>False) w).alloc (.cells #[.int .i64 x, .pointer none, .pointer none, .pointer none] 313)
    have u2:=upd_turned hturn
    have bk:Blk w2 w.heap.size 313 #[.int .i64 x, .pointer none, .pointer none, .pointer none]:=(Blk.new w _ _).upd u2 fun e=>hmk e.symm
    have b2:=(h.blk.upd u1 id).upd u2 fun e=>h.nm e.symm
    have s2:=(h.sr.upd u1 fun _ _=>id).upd u2 fun e he=>(h.ne e (List.mem_append_left _ he)).2.1
    have nd:=h.nd
    rw [blks,List.map_append,List.nodup_append] at nd
    refine (add_any (o:=0) b2 rfl rfl s2 bk nd.1 (fun e=>hrk e.symm) fun e he=>⟨(h.ne e (List.mem_append_left _ he)).1,hk e (List.mem_append_left _ he)⟩).mono fun e w3 ⟨e1,e2,u3⟩=>⟨e1, ?_, ?_⟩
    · obtain ⟨b3,s3⟩:=now_ready e2
      have hF: ∀e∈F,¬(BlkOf rb R e.2∨e.2=w.heap.size):=fun e he hh=>by
        rcases hh with (hh|⟨f,hf,hh⟩)|hh
        · exact (h.ne e (List.mem_append_right _ he)).1 hh
        · exact nd.2.2 f.2 (List.mem_map.2 ⟨f,hf,rfl⟩) e.2 (List.mem_map.2 ⟨e,he,rfl⟩) hh.symm
        · exact hk e (List.mem_append_right _ he) hh
      have sF:=((h.sf.upd u1 fun _ _=>id).upd u2 fun e he=>(h.ne e (List.mem_append_right _ he)).2.1).upd u3 hF
      have hM:=ownsMap_upd hown u3 fun hh=>by
        rcases hh with (hh|⟨f,hf,hh⟩)|hh
        · exact h.nm hh
        · exact (h.ne f (List.mem_append_left _ hf)).2.1 hh.symm
        · exact hmk hh
      have hsz:w.heap.size+1≤w3.heap.size:=by have:=u2.size;have:=u3.size;rw [World.size_alloc] at*;omega
      refine RowsAt.made (l:=(x,w.heap.size)::(R++F)) b3 s3 sF hM (hA.put hD.isMap hn) ?_ ?_ ?_ ?_ h.nm ?_
      · rw [List.append_assoc];exact List.perm_middle.symm
      · exact List.nodup_cons.2 ⟨fun hh=>by obtain ⟨e,he,h5⟩:=List.mem_map.1 hh;exact hk e he h5,h.nd⟩
      · exact List.nodup_cons.2 ⟨hn,h.nn⟩
      · intro e he
        rcases List.mem_cons.1 he with rfl|he
        · exact ⟨fun e=>hrk e.symm,fun e=>hmk e.symm,hsz⟩
        · exact ⟨(h.ne e he).1,(h.ne e he).2.1,by have:=(h.ne e he).2.2;omega⟩
      · intro e he
        rcases List.mem_cons.1 he with rfl|he
        · exact hx
        · exact h.i64 e he
    · refine (((u1.mono fun _ x=>x.elim).step u2 fun i hi=> ?_).step u3 fun i hi=> ?_)
      · exact .inl (.inr (.inl hi))
      · rcases hi with (hi|⟨f,hf,hi⟩)|hi
        · exact .inl (.inl hi)
        · exact .inl (.inr (.inr ⟨f,List.mem_append_left _ hf,hi⟩))
        · exact .inr (by omega)
theorem rows_push_there (h:RowsAt w rb mb R F) (hx:I64 x) (hn:x∈nums (R++F)):
    Calls Tryz.prog 280 #[.pointer (some ⟨rb,0,none⟩), .int .i64 x] w fun e w'=>e= .returned (.int .i64 6)∧w=w':=by
  obtain ⟨⟨x',k⟩,hk,rfl⟩:=List.mem_map.1 hn
  refine push_there1 (k:=k) ((find_rows h hx).mono fun e w' ⟨⟨s,h1,h2⟩,h3⟩=>⟨?_,h3⟩)
  rcases h2 with ⟨_,h2⟩|⟨k',rfl,h4⟩
  · exact absurd hn h2
  · rw [h1,one_place h.nn h4 hk]
theorem find_none (h:RowsAt w rb mb R F) (hx:I64 x) (hn:x∉nums (R++F)):Calls Tryz.prog 270 #[.pointer (some ⟨rb,0,none⟩), .int .i64 x] w fun e w'=>e= .returned (.pointer none)∧w=w':=
  (find_rows h hx).mono fun e w' ⟨⟨s,h1,h2⟩,h3⟩=>⟨by
    rcases h2 with ⟨rfl,_⟩|⟨k,rfl,h4⟩
    · exact h1
    · exact absurd (List.mem_map.2 ⟨_,h4,rfl⟩) hn,h3⟩
theorem find_there (h:RowsAt w rb mb R F) (hx:I64 x) (hk:(x,k)∈R++F):Calls Tryz.prog 270 #[.pointer (some ⟨rb,0,none⟩), .int .i64 x] w fun e w'=>e= .returned (.pointer (some ⟨k,0,none⟩))∧w=w':=
  (find_rows h hx).mono fun e w' ⟨⟨s,h1,h2⟩,h3⟩=>⟨by
    rcases h2 with ⟨_,h2⟩|⟨k',rfl,h4⟩
    · exact absurd (List.mem_map.2 ⟨_,hk,rfl⟩) h2
    · rw [h1,one_place h.nn h4 hk],h3⟩
theorem RowsAt.drew (h:RowsAt w rb mb R F):RowsAt w.drew rb mb R F:=h.upd ((Upd.refl (fun _=>False) w).drew) id id fun _ _=>id
theorem rows_cut_ready (h:RowsAt w rb mb (a++(x,k)::b) F):
    Calls Tryz.prog 271 #[.pointer (some ⟨rb,0,none⟩), .pointer (some ⟨k,0,none⟩)] w fun e w'=>e= .returned (.tuple #[])∧
      Blk w' rb 309 #[.pointer (fstP (a++b) none), .pointer (lstP (a++b) none), .pointer (fstP F none), .pointer (lstP F none), .map (some mb)]∧SegP w' ⟨rb,0,none⟩ none (a++b) none∧SegP w' ⟨rb,2,none⟩ none F none∧
      (∃p n,Blk w' k 313 (spotC x ⟨rb,0,none⟩ p n))∧Upd (BlkOf rb (a++b)) w w':=by
  have nd:=h.nd
  rw [blks,List.map_append,List.nodup_append] at nd
  refine (cut_any (o:=0) h.blk rfl rfl h.sr nd.1 fun e he=>(h.ne e (List.mem_append_left _ he)).1).mono fun e w' ⟨e1,⟨e2,e3⟩,u⟩=> ?_
  obtain ⟨b2,s2⟩:=now_ready e2
  refine ⟨e1,b2,s2,h.sf.upd u fun e he hh=> ?_,e3,u⟩
  rcases hh with hh|⟨f,hf,hh⟩
  · exact (h.ne e (List.mem_append_right _ he)).1 hh
  · refine nd.2.2 f.2 (List.mem_map.2 ⟨f, ?_,rfl⟩) e.2 (List.mem_map.2 ⟨e,he,rfl⟩) hh.symm
    rcases List.mem_append.1 hf with hf|hf<;>simp [hf]
theorem rows_cut_full (h:RowsAt w rb mb R (a++(x,k)::b)):
    Calls Tryz.prog 271 #[.pointer (some ⟨rb,2,none⟩), .pointer (some ⟨k,0,none⟩)] w fun e w'=>e= .returned (.tuple #[])∧
      Blk w' rb 309 #[.pointer (fstP R none), .pointer (lstP R none), .pointer (fstP (a++b) none), .pointer (lstP (a++b) none), .map (some mb)]∧SegP w' ⟨rb,0,none⟩ none R none∧SegP w' ⟨rb,2,none⟩ none (a++b) none∧
      (∃p n,Blk w' k 313 (spotC x ⟨rb,2,none⟩ p n))∧Upd (BlkOf rb (a++b)) w w':=by
  have nd:=h.nd
  rw [blks,List.map_append,List.nodup_append] at nd
  refine (cut_any (o:=2) h.blk rfl rfl h.sf nd.2.1 fun e he=>(h.ne e (List.mem_append_right _ he)).1).mono fun e w' ⟨e1,⟨e2,e3⟩,u⟩=> ?_
  obtain ⟨b2,s2⟩:=now_full e2
  refine ⟨e1,b2,h.sr.upd u fun e he hh=> ?_,s2,e3,u⟩
  rcases hh with hh|⟨f,hf,hh⟩
  · exact (h.ne e (List.mem_append_left _ he)).1 hh
  · refine nd.2.2 e.2 (List.mem_map.2 ⟨e,he,rfl⟩) f.2 (List.mem_map.2 ⟨f, ?_,rfl⟩) hh
    rcases List.mem_append.1 hf with hf|hf<;>simp [hf]
theorem upd_own (u:Upd (BlkOf rb (a++b)) w w') {l:List Sp} (hl: ∀e∈a++b,e∈l):Upd (Own rb mb l) w w':=u.mono fun c hc=>by
  rcases hc with hc|⟨f,hf,hc⟩
  · exact .inl hc
  · exact .inr (.inr ⟨f,hl f hf,hc⟩)
theorem rows_less {w1 w2:World} {R' F':List Sp} {n:Nat} {D:DataW Unit} (h:RowsAt w rb mb R F) (hp:(R++F).Perm ((x,k)::(R'++F')))
    (b1:Blk w1 rb 309 #[.pointer (fstP R' none), .pointer (lstP R' none), .pointer (fstP F' none), .pointer (lstP F' none), .map (some mb)]) (s1:SegP w1 ⟨rb,0,none⟩ none R' none) (s2:SegP w1 ⟨rb,2,none⟩ none F' none)
    (u1:Upd (Own rb mb (R++F)) w w1) (hD:Maps.size D≤(R++F).length) (hA:AtMap D (R++F)) (hM:w2.ownsMap Tryz.prog 3 spElem mb n (D.del (.int .i64 x))) (hT:w1.mapTurned w2 mb):
    RowsAt w2 rb mb R' F'∧Upd (Own rb mb (R++F)) w w2:=by
  have u2:=upd_turned hT
  have hin: ∀e∈R'++F',e∈R++F:=fun e he=>hp.mem_iff.2 (List.mem_cons_of_mem _ he)
  have nn:=(hp.map fun e=>e.1).nodup_iff.1 h.nn
  have nd:=(hp.map fun e=>e.2).nodup_iff.1 h.nd
  rw [List.map_cons,List.nodup_cons] at nn nd
  have hA':=hA.perm hp
  refine ⟨RowsAt.made (l:=R'++F') (b1.upd u2 fun e=>h.nm e.symm) (s1.upd u2 fun e he=>(h.ne e (hin e (List.mem_append_left _ he))).2.1) (s2.upd u2 fun e he=>(h.ne e (hin e (List.mem_append_right _ he))).2.1) (ownsMap_tight hM ?_) (hA'.del nn.1) (List.Perm.refl _) nd.2 nn.2 (fun e he=>⟨(h.ne e (hin e he)).1,(h.ne e (hin e he)).2.1, ?_⟩) h.nm (fun e he=>h.i64 e (hin e he)),u1.trans (u2.mono fun c hc=> .inr (.inl hc))⟩
  · have:=size_del (D:=D) (kl:= .int .i64 x) (z:=nilD) (by rw [hA'.there (x,k) (List.mem_cons_self ..)];intro e;simp only [DataW.lit.injEq,Lit.int.injEq,true_and] at e;omega)
    have h2:=hp.length_eq
    rw [List.length_cons] at h2
    omega
  · have:=(h.ne e (hin e he)).2.2
    have:=u1.size;have:=u2.size;omega
theorem split_mem {l:List Sp} {e:Sp} (h:e∈l): ∃a b,l=a++e::b:=List.append_of_mem h
theorem RowsAt.size (h:RowsAt w rb mb R F): ∃D,w.ownsMap Tryz.prog 3 spElem mb (R++F).length D∧Maps.size D≤(R++F).length∧AtMap D (R++F):=by
  obtain ⟨D,hD,hA⟩:=h.mp
  exact ⟨D,hD,hD.size_le,hA⟩
theorem rows_remove_ready (h:RowsAt w rb mb (a++(x,k)::b) F) (hx:I64 x):
    Calls Tryz.prog 248 #[.pointer (some ⟨rb,0,none⟩), .int .i64 x] w fun e w'=>e= .returned (.int .i64 0)∧RowsAt w' rb mb (a++b) F∧Upd (Own rb mb (a++(x,k)::b++F)) w w':=by
  obtain ⟨D,hD,hs,hA⟩:=h.size
  have bk:=(segP_mid.1 h.sr).2.1
  have hp:(a++(x,k)::b++F).Perm ((x,k)::(a++b++F)):=by rw [List.append_assoc,List.cons_append,List.append_assoc a b F];exact List.perm_middle
  refine remove_there1 (k:=k) (o:=0) (D:=D) hx (find_there h hx (by simp)) (bk.cell 1) (rows_cut_ready h) (fun w1 ⟨q1,q2,q3,q4,q5⟩=>⟨q1.cell 4,ownsMap_upd hD q5 fun hh=> ?_⟩) fun w1 w2 ⟨q1,q2,q3,q4,q5⟩ hM hT=>rows_less h hp q1 q2 q3 (upd_own q5 fun e he=> ?_) hs hA hM hT
  · rcases hh with hh|⟨f,hf,hh⟩
    · exact h.nm hh
    · exact (h.ne f (by rcases List.mem_append.1 hf with hf|hf<;>simp [hf])).2.1 hh.symm
  · rcases List.mem_append.1 he with hf|hf<;>simp [hf]
theorem rows_remove_full (h:RowsAt w rb mb R (a++(x,k)::b)) (hx:I64 x):
    Calls Tryz.prog 248 #[.pointer (some ⟨rb,0,none⟩), .int .i64 x] w fun e w'=>e= .returned (.int .i64 0)∧RowsAt w' rb mb R (a++b)∧Upd (Own rb mb (R++(a++(x,k)::b))) w w':=by
  obtain ⟨D,hD,hs,hA⟩:=h.size
  have bk:=(segP_mid.1 h.sf).2.1
  have hp:(R++(a++(x,k)::b)).Perm ((x,k)::(R++(a++b))):=by rw [←List.append_assoc,←List.append_assoc];exact List.perm_middle
  refine remove_there1 (k:=k) (o:=2) (D:=D) hx (find_there h hx (by simp)) (bk.cell 1) (rows_cut_full h) (fun w1 ⟨q1,q2,q3,q4,q5⟩=>⟨q1.cell 4,ownsMap_upd hD q5 fun hh=> ?_⟩) fun w1 w2 ⟨q1,q2,q3,q4,q5⟩ hM hT=>rows_less h hp q1 q2 q3 (upd_own q5 fun e he=> ?_) hs hA hM hT
  · rcases hh with hh|⟨f,hf,hh⟩
    · exact h.nm hh
    · exact (h.ne f (by rcases List.mem_append.1 hf with hf|hf<;>simp [hf])).2.1 hh.symm
  · rcases List.mem_append.1 he with hf|hf<;>simp [hf]
theorem rows_moved {w2:World} {R' F':List Sp} (h:RowsAt w rb mb R F) (hp:(R++F).Perm (R'++F'))
    (b1:Blk w2 rb 309 #[.pointer (fstP R' none), .pointer (lstP R' none), .pointer (fstP F' none), .pointer (lstP F' none), .map (some mb)]) (s1:SegP w2 ⟨rb,0,none⟩ none R' none) (s2:SegP w2 ⟨rb,2,none⟩ none F' none)
    (u:Upd (BlkOf rb (R++F)) w w2):RowsAt w2 rb mb R' F'∧Upd (Own rb mb (R++F)) w w2:=by
  obtain ⟨D,hD,hA⟩:=h.mp
  refine ⟨RowsAt.made (l:=R++F) b1 s1 s2 (ownsMap_upd hD u fun hh=> ?_) hA hp h.nd h.nn (fun e he=>⟨(h.ne e he).1,(h.ne e he).2.1,Nat.lt_of_lt_of_le (h.ne e he).2.2 u.size⟩) h.nm h.i64,u.mono fun c hc=> ?_⟩
  · rcases hh with hh|⟨f,hf,hh⟩
    · exact h.nm hh
    · exact (h.ne f hf).2.1 hh.symm
  · rcases hc with hc|hc
    · exact .inl hc
    · exact .inr (.inr hc)
theorem rows_fill (h:RowsAt w rb mb (a++(x,k)::b) F) (hx:I64 x):
    Calls Tryz.prog 251 #[.pointer (some ⟨rb,0,none⟩), .int .i64 x] w fun e w'=>e= .returned (.int .i64 0)∧RowsAt w' rb mb (a++b) (F++ [(x,k)])∧Upd (Own rb mb (a++(x,k)::b++F)) w w':=by
  have bk:=(segP_mid.1 h.sr).2.1
  have hp:(a++(x,k)::b++F).Perm (a++b++(F++ [(x,k)])):=by
    refine List.Perm.trans (l₂:=(x,k)::(a++b++F)) ?_ ?_
    · rw [List.append_assoc,List.cons_append,List.append_assoc a b F];exact List.perm_middle
    · rw [←List.append_assoc];exact (List.perm_append_singleton _ _).symm
  have nd:=(hp.map fun e=>e.2).nodup_iff.1 h.nd
  have nd1:=nd
  rw [List.map_append,List.nodup_append] at nd1
  have nd2:=nd1.2.1
  rw [List.map_append,List.nodup_append] at nd2
  refine fill_there1 (k:=k) (find_there h hx (by simp)) (bk.cell 1) (rows_cut_ready h.drew) fun w1 ⟨q1,q2,q3,⟨p,n,q4⟩,q5⟩=> ?_
  refine (add_any (o:=2) q1 rfl rfl q3 q4 nd2.1 (h.ne (x,k) (by simp)).1 fun e he=>⟨(h.ne e (by simp [he])).1,fun hh=>nd2.2.2 e.2 (List.mem_map.2 ⟨e,he,rfl⟩) k (by simp) hh⟩).mono fun e w2 ⟨e1,e2,u2⟩=>⟨e1, ?_⟩
  obtain ⟨b2,s2⟩:=now_full e2
  refine rows_moved h hp b2 (q2.upd u2 fun e he hh=> ?_) s2 ((((Upd.refl _ w).drew.trans (q5.mono fun c hc=> ?_):Upd (BlkOf rb (a++(x,k)::b++F)) w w1).trans (u2.mono fun c hc=> ?_)))
  · have he':e.2∈List.map (fun e:Sp=>e.2) (a++b):=List.mem_map.2 ⟨e,he,rfl⟩
    rcases hh with (hh|⟨f,hf,hh⟩)|hh
    · exact (h.ne e (by rcases List.mem_append.1 he with he|he<;>simp [he])).1 hh
    · exact nd1.2.2 e.2 he' f.2 (List.mem_map.2 ⟨f,List.mem_append_left _ hf,rfl⟩) hh
    · exact nd1.2.2 e.2 he' k (by simp) hh
  · rcases hc with hc|⟨f,hf,hc⟩
    · exact .inl hc
    · exact .inr ⟨f,by rcases List.mem_append.1 hf with hf|hf<;>simp [hf],hc⟩
  · rcases hc with (hc|⟨f,hf,hc⟩)|hc
    · exact .inl hc
    · exact .inr ⟨f,by simp [hf],hc⟩
    · exact .inr ⟨(x,k),by simp,hc⟩
theorem rows_wake (h:RowsAt w rb mb R (a++(x,k)::b)) (hx:I64 x):
    Calls Tryz.prog 281 #[.pointer (some ⟨rb,0,none⟩), .int .i64 x] w fun e w'=>e= .returned (.int .i64 0)∧RowsAt w' rb mb (R++ [(x,k)]) (a++b)∧Upd (Own rb mb (R++(a++(x,k)::b))) w w':=by
  have bk:=(segP_mid.1 h.sf).2.1
  have hp:(R++(a++(x,k)::b)).Perm (R++ [(x,k)]++(a++b)):=by
    rw [List.append_assoc]
    exact List.Perm.append_left R List.perm_middle
  have nd:=(hp.map fun e=>e.2).nodup_iff.1 h.nd
  have nd1:=nd
  rw [List.map_append,List.nodup_append] at nd1
  have nd2:=nd1.1
  rw [List.map_append,List.nodup_append] at nd2
  refine wake_there1 (k:=k) (find_there h hx (by simp)) (bk.cell 1) (rows_cut_full h.drew) fun w1 ⟨q1,q2,q3,⟨p,n,q4⟩,q5⟩=> ?_
  refine (add_any (o:=0) q1 rfl rfl q2 q4 nd2.1 (h.ne (x,k) (by simp)).1 fun e he=>⟨(h.ne e (by simp [he])).1,fun hh=>nd2.2.2 e.2 (List.mem_map.2 ⟨e,he,rfl⟩) k (by simp) hh⟩).mono fun e w2 ⟨e1,e2,u2⟩=>⟨e1, ?_⟩
  obtain ⟨b2,s2⟩:=now_ready e2
  refine rows_moved h hp b2 s2 (q3.upd u2 fun e he hh=> ?_) ((((Upd.refl _ w).drew.trans (q5.mono fun c hc=> ?_):Upd (BlkOf rb (R++(a++(x,k)::b))) w w1).trans (u2.mono fun c hc=> ?_)))
  · have he':e.2∈List.map (fun e:Sp=>e.2) (a++b):=List.mem_map.2 ⟨e,he,rfl⟩
    rcases hh with (hh|⟨f,hf,hh⟩)|hh
    · exact (h.ne e (by rcases List.mem_append.1 he with he|he<;>simp [he])).1 hh
    · exact nd1.2.2 f.2 (List.mem_map.2 ⟨f,List.mem_append_left _ hf,rfl⟩) e.2 he' hh.symm
    · exact nd1.2.2 k (by simp) e.2 he' hh.symm
  · rcases hc with hc|⟨f,hf,hc⟩
    · exact .inl hc
    · exact .inr ⟨f,by rcases List.mem_append.1 hf with hf|hf<;>simp [hf],hc⟩
  · rcases hc with (hc|⟨f,hf,hc⟩)|hc
    · exact .inl hc
    · exact .inr ⟨f,by simp [hf],hc⟩
    · exact .inr ⟨(x,k),by simp,hc⟩
end
section
variable {w:World} {rb:Nat} {O:Nat→Prop} {S:QR} {x:Int}
theorem own_of {rb mb:Nat} {l:List Sp} (h1:O rb) (h2:O mb) (h3: ∀e∈l,O e.2): ∀c,Own rb mb l c→O c:=fun c hc=>by
  rcases hc with rfl|rfl|⟨e,he,rfl⟩
  · exact h1
  · exact h2
  · exact h3 e he
theorem out_mid {a b:List Sp} {k:Nat} (nn:(nums (a++(x,k)::b)).Nodup):QueueMath.out (nums (a++(x,k)::b)) x=nums (a++b):=by
  have e:nums (a++(x,k)::b)=nums a++x::nums b:=by simp [nums]
  rw [e] at nn⊢
  rw [List.nodup_append,List.nodup_cons] at nn
  have h1:QueueMath.out (nums a) x=nums a:=out_self fun h=>nn.2.2 x h x (List.mem_cons_self ..) rfl
  have h2:QueueMath.out (nums b) x=nums b:=out_self nn.2.1.1
  unfold QueueMath.out at*
  rw [List.filter_append,List.filter_cons_of_neg (by simp),h1,h2]
  simp [nums]
theorem nums_app (a b:List Sp):nums (a++b)=nums a++nums b:=List.map_append ..
def RnPost (w:World) (rb:Nat) (O:Nat→Prop) (S':QR) (a:Int) (e:Ending) (w':World):Prop:=
  e= .returned (.int .i64 a)∧ ∃O',RwsN w' rb O' S'∧(∀k,O k→O' k)∧(∀k,O' k→O k∨(w.heap.size≤k∧k<w'.heap.size))∧Upd O w w'
theorem RnPost.same {e:Ending} {w':World} {S':QR} {a:Int} (h1:e= .returned (.int .i64 a)) (h2:RwsN w' rb O S') (u:Upd O w w'):RnPost w rb O S' a e w':=
  ⟨h1,O,h2,fun _=>id,fun _=> .inl,u⟩
theorem rn_push (hN:RwsN w rb O S) (hx:I64 x) (hm:S.all.length≤many):Calls Tryz.prog 280 #[.pointer (some ⟨rb,0,none⟩), .int .i64 x] w fun e w'=>RnPost w rb O (pushE S [x]).1 (pushE S [x]).2 e w':=by
  obtain ⟨mb,R,F,h,rfl,h1,h2,h3⟩:=id hN
  by_cases hn:x∈QR.all ⟨nums R,nums F⟩
  · rw [push_there hn]
    rw [nums_all] at hn
    exact (rows_push_there h hx hn).mono fun e w' ⟨e1,e2⟩=>by subst e2;exact RnPost.same e1 hN (Upd.refl _ _)
  · rw [push_new hn]
    rw [nums_all] at hn
    rw [h.len] at hm
    refine (rows_push h hx hn hm).mono fun e w' ⟨e1,e2,u⟩=>⟨e1,fun c=>O c∨c=w.heap.size,⟨mb,R++ [(x,w.heap.size)],F,e2, ?_, .inl h1, .inl h2,fun e he=> ?_⟩,fun k=> .inl,fun k hk=> ?_,u.mono (own_of h1 h2 h3)⟩
    · rw [nums_app];rfl
    · rcases List.mem_append.1 he with he|he
      · rcases List.mem_append.1 he with he|he
        · exact .inl (h3 e (List.mem_append_left _ he))
        · rw [List.mem_singleton.1 he];exact .inr rfl
      · exact .inl (h3 e (List.mem_append_right _ he))
    · refine hk.imp id fun hk=>⟨by omega, ?_⟩
      have:=(e2.ne (x,w.heap.size) (by simp)).2.2
      rw [hk];exact this
theorem rn_remove (hN:RwsN w rb O S) (hx:I64 x):Calls Tryz.prog 248 #[.pointer (some ⟨rb,0,none⟩), .int .i64 x] w fun e w'=>RnPost w rb O (removeE S [x]).1 (removeE S [x]).2 e w':=by
  obtain ⟨mb,R,F,h,rfl,h1,h2,h3⟩:=id hN
  by_cases hn:x∈QR.all ⟨nums R,nums F⟩
  · rw [remove_there hn]
    rw [nums_all] at hn
    obtain ⟨⟨x',k⟩,hk,rfl⟩:=List.mem_map.1 hn
    have nn:=h.nn
    rw [nums,List.map_append,List.nodup_append] at nn
    rcases List.mem_append.1 hk with hk|hk
    · obtain ⟨a,b,rfl⟩:=split_mem hk
      refine (rows_remove_ready h hx).mono fun e w' ⟨e1,e2,u⟩=>RnPost.same e1 ⟨mb,a++b,F,e2, ?_,h1,h2,fun e he=>h3 e ?_⟩ (u.mono (own_of h1 h2 h3))
      · rw [out_mid nn.1,out_self fun hh=>nn.2.2 x' (List.mem_map.2 ⟨_,hk,rfl⟩) x' hh rfl]
      · rcases List.mem_append.1 he with he|he
        · rcases List.mem_append.1 he with he|he<;>simp [he]
        · simp [he]
    · obtain ⟨a,b,rfl⟩:=split_mem hk
      refine (rows_remove_full h hx).mono fun e w' ⟨e1,e2,u⟩=>RnPost.same e1 ⟨mb,R,a++b,e2, ?_,h1,h2,fun e he=>h3 e ?_⟩ (u.mono (own_of h1 h2 h3))
      · rw [out_mid nn.2.1,out_self fun hh=>nn.2.2 x' hh x' (List.mem_map.2 ⟨_,hk,rfl⟩) rfl]
      · rcases List.mem_append.1 he with he|he
        · simp [he]
        · rcases List.mem_append.1 he with he|he<;>simp [he]
  · rw [remove_none hn]
    rw [nums_all] at hn
    exact (remove_none1 (find_none h hx hn)).mono fun e w' ⟨e1,e2⟩=>by subst e2;exact RnPost.same e1 hN (Upd.refl _ _)
theorem rn_fill (hN:RwsN w rb O S) (hx:I64 x):Calls Tryz.prog 251 #[.pointer (some ⟨rb,0,none⟩), .int .i64 x] w fun e w'=>RnPost w rb O (fillE S x).1 (fillE S x).2 e w':=by
  obtain ⟨mb,R,F,h,rfl,h1,h2,h3⟩:=id hN
  have nn:=h.nn
  rw [nums,List.map_append,List.nodup_append] at nn
  by_cases hn:x∈nums R
  · rw [fill_yes hn]
    obtain ⟨⟨x',k⟩,hk,rfl⟩:=List.mem_map.1 hn
    obtain ⟨a,b,rfl⟩:=split_mem hk
    refine (rows_fill h hx).mono fun e w' ⟨e1,e2,u⟩=>RnPost.same e1 ⟨mb,a++b,F++ [(x',k)],e2, ?_,h1,h2,fun e he=>h3 e ?_⟩ (u.mono (own_of h1 h2 h3))
    · rw [out_mid nn.1,nums_app F];rfl
    · rcases List.mem_append.1 he with he|he
      · rcases List.mem_append.1 he with he|he<;>simp [he]
      · rcases List.mem_append.1 he with he|he
        · simp [he]
        · rw [List.mem_singleton.1 he];simp
  · rw [fill_no hn]
    by_cases hf:x∈nums F
    · obtain ⟨⟨x',k⟩,hk,rfl⟩:=List.mem_map.1 hf
      obtain ⟨p',n',bk⟩:=h.sf.at hk
      exact (fill_other1 (find_there h hx (List.mem_append_right _ hk)) (bk.cell 1) h.blk).mono fun e w' ⟨e1,u⟩=>RnPost.same e1 (RwsN.upd hN u fun _ x=>x.elim) (u.mono fun _ x=>x.elim)
    · exact (fill_none1 (find_none h hx (by rw [nums_app];exact fun hh=>(List.mem_append.1 hh).elim hn hf))).mono fun e w' ⟨e1,u⟩=>RnPost.same e1 (RwsN.upd hN u fun _ x=>x.elim) (u.mono fun _ x=>x.elim)
theorem rn_wake (hN:RwsN w rb O S) (hx:I64 x):Calls Tryz.prog 281 #[.pointer (some ⟨rb,0,none⟩), .int .i64 x] w fun e w'=>RnPost w rb O (wakeE S x).1 (wakeE S x).2 e w':=by
  obtain ⟨mb,R,F,h,rfl,h1,h2,h3⟩:=id hN
  have nn:=h.nn
  rw [nums,List.map_append,List.nodup_append] at nn
  by_cases hn:x∈nums F
  · rw [wake_yes hn]
    obtain ⟨⟨x',k⟩,hk,rfl⟩:=List.mem_map.1 hn
    obtain ⟨a,b,rfl⟩:=split_mem hk
    refine (rows_wake h hx).mono fun e w' ⟨e1,e2,u⟩=>RnPost.same e1 ⟨mb,R++ [(x',k)],a++b,e2, ?_,h1,h2,fun e he=>h3 e ?_⟩ (u.mono (own_of h1 h2 h3))
    · rw [out_mid nn.2.1,nums_app R];rfl
    · rcases List.mem_append.1 he with he|he
      · rcases List.mem_append.1 he with he|he
        · simp [he]
        · rw [List.mem_singleton.1 he];simp
      · rcases List.mem_append.1 he with he|he<;>simp [he]
  · rw [show wakeE ⟨nums R,nums F⟩ x=(⟨nums R,nums F⟩,5) from if_neg hn]
    by_cases hf:x∈nums R
    · obtain ⟨⟨x',k⟩,hk,rfl⟩:=List.mem_map.1 hf
      obtain ⟨p',n',bk⟩:=h.sr.at hk
      exact (wake_other1 (find_there h hx (List.mem_append_left _ hk)) (bk.cell 1) h.blk).mono fun e w' ⟨e1,u⟩=>RnPost.same e1 (RwsN.upd hN u fun _ x=>x.elim) (u.mono fun _ x=>x.elim)
    · exact (wake_none1 (find_none h hx (by rw [nums_app];exact fun hh=>(List.mem_append.1 hh).elim hf hn))).mono fun e w' ⟨e1,u⟩=>RnPost.same e1 (RwsN.upd hN u fun _ x=>x.elim) (u.mono fun _ x=>x.elim)
end
end Go.Proofs.YtippfeplogkaiaaGreatDoor
namespace Go.Proofs.YtippfeplogkaiaaGreatDoor
open Go.RowKit Go.Maps QueueMath
set_option linter.unusedVariables false
abbrev Rowz:=List (Addr×List Sp)
def toldL (L:Rowz):List Int:=L.flatMap fun r=>nums r.2
def Rd (w:World) (g off:Nat) (L:Rowz):Prop:= ∀i r,L[i]? =some r→w.cell? ⟨g,off+i*2,none⟩=some (.pointer (fstP r.2 none))∧w.cell? ⟨g,off+i*2+1,none⟩=some (.pointer (lstP r.2 none))∧SegP w r.1 none r.2 none
theorem Rd.grew {w w':World} {g off:Nat} {L:Rowz} (h:Rd w g off L) (hb:Below w.heap.size w w'):Rd w' g off L:=fun i r hr=>by
  obtain ⟨h1,h2,h3⟩:=h i r hr
  exact ⟨(hb.cell (World.block_lt_of_cell? w _ h1)).trans h1,(hb.cell (World.block_lt_of_cell? w _ h2)).trans h2,h3.grew hb⟩
theorem told_next (L:Rowz) {t:Nat} {r:Addr×List Sp} (h:L[t]? =some r):toldL (L.take (t+1))=toldL (L.take t)++nums r.2:=by
  rw [List.take_add_one,h];simp [toldL]
theorem told_le (L:Rowz) (t:Nat):(toldL (L.take t)).length≤(toldL L).length:=by
  have e:toldL L=toldL (L.take t)++toldL (L.drop t):=by
    unfold toldL;rw [←List.flatMap_append,List.take_append_drop]
  rw [e,List.length_append];omega
def ToR (w:World) (L:Rowz) (n:Nat) (v i:Value) (wr:World):Prop:=
  ∃(t:Nat) (v0:Value),t≤n∧i= .int .i64 (t:Int)∧v0=v∧Vec Elem.ints wr v (toldL (L.take t))∧(∀k,In v k→w.heap.size≤k)∧Below w.heap.size w wr
def InR (w:World) (l:List Int) (r:List Sp) (g:Nat) (v s:Value) (wr:World):Prop:=
  ∃(dn rest:List Sp) (v0:Value),r=dn++rest∧g=rest.length∧s= .pointer (fstP rest none)∧v0=v∧Vec Elem.ints wr v (l++nums dn)∧(∀k,In v k→w.heap.size≤k)∧Below w.heap.size w wr
set_option maxRecDepth 100000 in
set_option maxHeartbeats 4000000 in
theorem told_any (w:World) {g off n:Nat} {L:Rowz} (h:Rd w g off L) (hn:n=L.length) (hn2:n≤2) (hm:(toldL L).length≤many):
    Calls Tryz.prog 170 #[.slice (some ⟨g,off,none⟩) n n] w fun e w'=> ∃v,e= .returned v∧Vec Elem.ints w' v (toldL L)∧(∀k,In v k→w.heap.size≤k)∧Below w.heap.size w w':=by
  obtain ⟨i0,hi,hz0,hz1,hz2⟩:=info_parts infoInt
  have H:=Lib.hid h;have HN:=Lib.hid hn
  have HM:=Lib.hid (show (toldL L).length≤1000000 from hm)
  have I0:=Lib.hid (show ToR w L n (.slice none 0 0) (.int .i64 0) w from ⟨0,_,Nat.zero_le _,rfl,rfl,Vec.nil _,(by intro k hk;cases hk),Below.refl _ _⟩)
  clear h hn hm
  go_enter Tryz.func170,Tryz.ntmps170
  go_wp2
  go_loopw [3,9] (fun v i wr=>ToR w L n v i wr) (fun _ i _=>n-(intOf i).toNat)
  case atStart=>exact I0.out
  case round=>
    clear I0
    obtain ⟨t,v,ht,rfl,rfl,hv,hin,hb⟩:=hrel
    have B:=Lib.hid hb;have V:=Lib.hid hv;have NI:=Lib.hid hin
    by_cases htn:t<n
    · obtain ⟨r,hr⟩: ∃r,L[t]? =some r:=⟨_,List.getElem?_eq_getElem (by have:=HN.out;omega)⟩
      have RD:=Lib.hid (H.out.grew hb)
      obtain ⟨c0,c1,-⟩:=RD.out t r hr
      have HR:=Lib.hid hr
      obtain ⟨ra,l⟩:=r
      obtain ⟨p0,hp0⟩: ∃p,fstP l none=p:=⟨_,rfl⟩
      obtain ⟨p1,hp1⟩: ∃p,lstP l none=p:=⟨_,rfl⟩
      rw [show (ra,l).2=l from rfl,hp0] at c0
      rw [show (ra,l).2=l from rfl,hp1] at c1
      obtain ⟨T,hT⟩: ∃T,toldL (L.take t)=T:=⟨_,rfl⟩
      have HT:=Lib.hid hT
      have I1:Hid (∀o,InR w T l l.length v (.pointer p0) (wr.alloc o)):=Lib.hid fun o=>⟨[],l,_,rfl,rfl,by rw [hp0],rfl,by rw [←hT];simpa [nums] using hv.alloc o,hin,hb.alloc hb.size o⟩
      have t2:decide ((t:Int)<(n:Int))=true:=decide_eq_true (by omega)
      have t2':decide (t<n)=true:=decide_eq_true htn
      have q3:(0:Int)≤(t:Int):=by omega
      have q4:(t:Int)<(n:Int):=by omega
      clear hv hin hb hr hp0 hp1 hT
      go_wp2
      go_loopg [3,6] l.length (fun k v s wr=>InR w T l k v s wr)
      case atStart=>exact I1.out _
      case round=>
        clear I1 c0 c1 V NI B
        obtain ⟨dn,rest,v,hl,rfl,rfl,rfl,hv,hin,hb⟩:=hrel
        have LN:Hid ((T++nums l).length≤1000000):=Lib.hid (by rw [←HT.out,←told_next L HR.out];exact Nat.le_trans (told_le L _) HM.out)
        cases rest with
        | nil=>
          have NX:=Lib.hid (show ToR w L n v (.int .i64 ((t+1:Nat):Int)) wr from ⟨t+1,_,htn,rfl,rfl,by rw [told_next L HR.out,HT.out,hl,List.append_nil];exact hv,hin,hb⟩)
          rw [show ((t+1:Nat):Int)=(t:Int)+1 by omega] at NX
          clear hv hin hb hl
          go_wp2
          go_roundw
          case rel=>exact NX.out
          case measure=>simp [intOf];omega
        | cons e rest=>
          obtain ⟨x,k⟩:=e
          have sg:=(H.out t _ HR.out).2.2
          rw [show ((ra,l):Addr×List Sp).2=l from rfl,hl,segP_mid] at sg
          obtain ⟨-,bk,-⟩:=sg
          obtain ⟨p,hp⟩: ∃p,fstP rest none=p:=⟨_,rfl⟩
          rw [hp] at bk
          have d0:wr.cell? ⟨k,0,none⟩=some (.int .i64 x):=(bk.grew hb).cell 0
          have d3: ∀w9,Below w.heap.size w w9→w9.cell? ⟨k,3,none⟩=some (.pointer p):=fun w9 hb9=>(bk.grew hb9).cell 3
          obtain ⟨a',c',rfl,hc1,hc2⟩:=hv.slice'
          obtain ⟨m,hmm⟩: ∃m,(T++nums dn).length=m:=⟨_,rfl⟩
          have hm1:m+1≤1000000:=by
            have h3:=LN.out
            rw [hl,List.length_append,nums_app,List.length_append] at h3
            rw [List.length_append] at hmm
            have:(nums ((x,k)::rest)).length=rest.length+1:=by simp [nums]
            omega
          have HL:=Lib.hid hl;have V:=Lib.hid hv;have NI:=Lib.hid hin;have B:=Lib.hid hb;have D3:=Lib.hid d3;have HP:=Lib.hid hp
          rw [hmm] at V NI hc1⊢
          have HMM:=Lib.hid hmm
          have hsp:fstP ((x,k)::rest) none=some ⟨k,0,none⟩:=rfl
          rw [hsp]
          clear hv hin hb hl d3 hp hmm bk hsp
          go_wp2_with (at_builtin;refine wpList_append_vec (E:=Elem.ints) rfl (.tmp 21) (.tmp 26) 84 rfl 3 i0 (.int .i64 0) 8 Tryz.underlying84 hi hz0 hz1 hz2 rfl (.slice a' m c') (.slice (some ⟨wr.heap.size,0,none⟩) 1 1) (T++nums dn) [x] rfl rfl (V.out.alloc _) (Seq.new wr _ [x] 1) ?_ ?_ ?_;(rw [HMM.out];simp only [maxLen,List.length_cons,List.length_nil];omega);(rw [HMM.out];simp only [List.length_cons,List.length_nil];omega);intro v8 w8 hv hu hin8;have V8:=Lib.hid hv;have U8:=Lib.hid hu;have N8:=Lib.hid hin8;have hb8:=(B.out.alloc B.out.size (.cells #[.int .i64 x] 3)).trans (hu.below (fun k hk=>NI.out k hk) (by have:=B.out.size;rw [World.size_alloc];omega));have B8:=Lib.hid hb8;have x3:w8.cell? ⟨k,3,none⟩=some (.pointer p):=D3.out w8 hb8;clear hv hu hin8 hb8)
          have NX:Hid (InR w T l rest.length v8 (.pointer p) w8):=Lib.hid ⟨dn++ [(x,k)],rest,_,by rw [HL.out];simp,rfl,by rw [HP.out],rfl,by have:=V8.out;rw [List.append_assoc] at this;rw [nums_app];exact this,fun k9 hk=>by
            rcases N8.out k9 hk with z|z
            · exact NI.out k9 z
            · rw [World.size_alloc] at z;have:=B.out.size;omega,B8.out⟩
          go_roundg rest.length
          case measure=>exact Nat.lt_succ_self _
          case rel=>exact NX.out
    · obtain rfl:t=n:=by omega
      have t2:decide ((t:Int)<(t:Int))=false:=decide_eq_false (by omega)
      clear hv hin hb
      go_wp2
      go_ret
      refine ⟨_,rfl, ?_,NI.out,B.out⟩
      have:=V.out
      rw [HN.out,List.take_length] at this
      exact this
end Go.Proofs.YtippfeplogkaiaaGreatDoor
