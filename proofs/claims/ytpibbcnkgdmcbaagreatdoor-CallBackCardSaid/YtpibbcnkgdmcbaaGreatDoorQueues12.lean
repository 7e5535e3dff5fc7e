/- Queues12: texts of layers below, joined (QSpots QMap QOps QRows QTold). -/
import Derived.Test.YtpibbcnkgdmcbaaGreatDoorQueueCl
import Derived.Deep.RegionHeld3
import Derived.LaidEqlPtr
import Derived.Test.YtpibbcnkgdmcbaaGreatDoorSmalls12
import Derived.Test.YtpibbcnkgdmcbaaGreatDoorOwn11
import Derived.Deep.LoopGhost
set_option linter.unusedVariables false
set_option maxRecDepth 100000
set_option maxHeartbeats 4000000
namespace Go.Proofs.YtpibbcnkgdmcbaaGreatDoor
open Go.RowKit aB
abbrev Sp:=Int×Nat
def dP:List Sp→Option Addr→Option Addr
 | [],d=>d
 |e::_,_=>some ⟨e.2,0,none⟩
def fq:List Sp→Option Addr→Option Addr
 | [],d=>d
 |e::t,_=>fq t (some ⟨e.2,0,none⟩)
abbrev iT (x:Int) (ra:Addr) (p n:Option Addr):Array Value:= #[.int .i64 x, .pointer (some ra), .pointer p, .pointer n]
def dw (w:World) (ra:Addr):Option Addr→List Sp→Option Addr→Prop
 |_, [],_=>True
 |p,e::t,n=>aV w e.2 228 (iT e.1 ra p (dP t n))∧dw w ra (some ⟨e.2,0,none⟩) t n
section
variable {w w':World} {ra:Addr} {p n d:Option Addr} {a b l:List Sp} {e:Sp}
theorem sI:dP (a++b) d=dP a (dP b d):=by cases a<;>rfl
theorem jG:fq (a++b) d=fq b (fq a d):=by
 induction a generalizing d with
 |nil=>rfl
 |cons x t ih=>exact ih
theorem xK:dw w ra p (a++b) n↔dw w ra p a (dP b n)∧dw w ra (fq a p) b n:=by
 induction a generalizing p with
 |nil=>exact ⟨fun h=>⟨trivial,h⟩,fun h=>h.2⟩
 |cons x t ih=>
  show (aV w x.2 _ (iT x.1 ra p (dP (t++b) n))∧dw w ra (some ⟨x.2,0,none⟩) (t++b) n)↔(aV w x.2 _ (iT x.1 ra p (dP t (dP b n)))∧dw w ra (some ⟨x.2,0,none⟩) t (dP b n))∧dw w ra (fq t (some ⟨x.2,0,none⟩)) b n;rw [ih,sI];exact ⟨fun h=>⟨⟨h.1,h.2.1⟩,h.2.2⟩,fun h=>⟨h.1.1,h.1.2,h.2⟩⟩
theorem lN {x:Int} {k:Nat}:dw w ra p (a++ [(x,k)]) n↔dw w ra p a (some ⟨k,0,none⟩)∧aV w k 228 (iT x ra (fq a p) n):=by
 rw [xK];exact ⟨fun h=>⟨h.1,h.2.1⟩,fun h=>⟨h.1,h.2,trivial⟩⟩
theorem lM {x:Int} {k:Nat}:dw w ra p (a++(x,k)::b) n↔dw w ra p a (some ⟨k,0,none⟩)∧aV w k 228 (iT x ra (fq a p) (dP b n))∧dw w ra (some ⟨k,0,none⟩) b n:=by
 rw [xK];exact Iff.rfl
theorem dw.upd {S:Nat→Prop} (h:dw w ra p l n) (u:aH S w w') (hs: ∀e∈l,¬S e.2):dw w' ra p l n:=by
 induction l generalizing p with
 |nil=>trivial
 |cons x t ih=>exact ⟨h.1.upd u (hs x (List.mem_cons_self ..)),ih h.2 fun e he=>hs e (List.mem_cons_of_mem _ he)⟩
theorem dw.grew (h:dw w ra p l n) (hb:Below w.heap.size w w'):dw w' ra p l n:=h.upd (ak hb) fun _ _=>id
theorem dw.far (h:dw w ra p l n) {c:Addr} (hc: ∀e∈l,e.2≠c.block) (u:Value):dw (w.setCell c u) ra p l n:=by
 induction l generalizing p with
 |nil=>trivial
 |cons x t ih=>exact ⟨h.1.far (hc x (List.mem_cons_self ..)) u,ih h.2 fun e he=>hc e (List.mem_cons_of_mem _ he)⟩
theorem dw.drew (h:dw w ra p l n):dw w.drew ra p l n:=h.upd ((aH.refl (fun _=>False) w).drew) fun _ _=>id
theorem dw.at (h:dw w ra p l n) (he:e∈l): ∃p' n',aV w e.2 228 (iT e.1 ra p' n'):=by
 induction l generalizing p with
 |nil=>cases he
 |cons x t ih=>
  rcases List.mem_cons.1 he with rfl|he
  · exact ⟨_,_,h.1⟩
  · exact ih h.2 he
theorem dw.next {y:Int} {j:Nat} (h:dw w ra p (a++ [(y,j)]) n) (hj: ∀e∈a,e.2≠j) (n':Option Addr):dw (w.setCell ⟨j,3,none⟩ (.pointer n')) ra p (a++ [(y,j)]) n':=by
 rw [lN] at h⊢;exact ⟨h.1.far hj _,by have:=h.2.put 3 (.pointer n');simpa [iT] using this⟩
theorem dw.prev {z:Int} {m:Nat} (h:dw w ra p ((z,m)::b) n) (hm: ∀e∈b,e.2≠m) (p':Option Addr):dw (w.setCell ⟨m,2,none⟩ (.pointer p')) ra p' ((z,m)::b) n:=
 ⟨by have:=h.1.put 2 (.pointer p');simpa [iT] using this,h.2.far hm _⟩
theorem dw.set (h:dw w ra p l n) {S:Nat→Prop} (u:aH S w w') (hs: ∀e∈l,¬S e.2):dw w' ra p l n:=h.upd u hs
end
def lu (w:World) (rb o:Nat) (t:TypeId) (cs:Array Value) (l:List Sp):Prop:=
 ∃cs',aV w rb t cs'∧cs'.size=cs.size∧cs'[o]? =some (.pointer (dP l none))∧cs'[o+1]? =some (.pointer (fq l none))∧(∀i,i≠o→i≠o+1→cs'[i]? =cs[i]?)∧dw w ⟨rb,o,none⟩ none l none
section
variable {w:World} {rb o:Nat} {t:TypeId} {cs:Array Value} {l:List Sp}
theorem j6 {i:Nat} {u:Value} {v:Value} (h:cs[i]? =some v):(cs.setIfInBounds i u)[i]? =some u:=by
 obtain ⟨x,_⟩:=Array.getElem?_eq_some_iff.1 h;exact Array.getElem?_setIfInBounds_self_of_lt x
theorem dQ {i j:Nat} {u:Value} (h:j≠i):(cs.setIfInBounds i u)[j]? =cs[j]? :=by rw [Array.getElem?_setIfInBounds,if_neg (fun e=>h e.symm)]
end
abbrev blks (l:List Sp):List Nat:=l.map fun e=>e.2
def kN (rb:Nat) (l:List Sp) (c:Nat):Prop:=c=rb∨ ∃e∈l,c=e.2
section
variable {w:World} {rb o:Nat} {t:TypeId} {cs:Array Value}
theorem UK {x:Int} {k:Nat} (hb:aV w rb t cs) (c0:cs[o]? =some (.pointer (some ⟨k,0,none⟩))) (c1:cs[o+1]? =some (.pointer (some ⟨k,0,none⟩)))
 (sg:dw w ⟨rb,o,none⟩ none [(x,k)] none) (hk:k≠rb):
 Calls Tryz.prog 169 #[.pointer (some ⟨rb,o,none⟩), .pointer (some ⟨k,0,none⟩)] w fun e w'=>e= .returned (.tuple #[])∧(lu w' rb o t cs []∧ ∃p n,aV w' k 228 (iT x ⟨rb,o,none⟩ p n))∧aH (kN rb []) w w':=by
 obtain ⟨bk,-⟩:=sg;have k2:w.cell? ⟨k,2,none⟩=some (.pointer none):=bk.cell 2;have k3:w.cell? ⟨k,3,none⟩=some (.pointer none):=bk.cell 3;have r0:w.cell? ⟨rb,o,none⟩=some (.pointer (some ⟨k,0,none⟩)):=by rw [hb.cell];exact c0
 have r1:w.cell? ⟨rb,o+1,none⟩=some (.pointer (some ⟨k,0,none⟩)):=by rw [hb.cell];exact c1
 have f0:w.frozen? ⟨rb,o,none⟩=false:=hb.frozen o;have f1:w.frozen? ⟨rb,o+1,none⟩=false:=hb.frozen (o+1);have HB:=Lib.hid hb;have BK:=Lib.hid bk;have C0:=Lib.hid c0;have C1:=Lib.hid c1;have HK:=Lib.hid hk;have hk':rb≠k:=fun h=>hk h.symm;clear hb bk c0 c1;go_enter Tryz.func169,Tryz.ntmps169
 go_wp2;refine bodyPost_end (results_none rfl _ _ _) rfl ?_;have b1:=(HB.out.put o (.pointer none)).put (o+1) (.pointer none);refine ⟨rfl,⟨⟨_,b1,by simp, ?_, ?_,fun i h0 h1=> ?_,trivial⟩,none,none,(BK.out.far (p:=⟨rb,o,none⟩) HK.out _).far (p:=⟨rb,o+1,none⟩) HK.out _⟩,((aH.refl _ w).setCell (p:=⟨rb,o,none⟩) (.inl (.inl rfl)) _).setCell (p:=⟨rb,o+1,none⟩) (.inl (.inl rfl)) _⟩
 · rw [dQ (by omega)];exact j6 C0.out
 · exact j6 ((dQ (by omega)).trans C1.out)
 · rw [dQ h1,dQ h0]
theorem MW {x z:Int} {k m:Nat} {l:List Sp} (hb:aV w rb t cs) (c0:cs[o]? =some (.pointer (some ⟨k,0,none⟩))) {v:Value} (c1:cs[o+1]? =some (.pointer (fq ((z,m)::l) none)))
 (sg:dw w ⟨rb,o,none⟩ none ((x,k)::(z,m)::l) none) (hk:k≠rb) (hm:m≠rb) (hkm:k≠m) (hl: ∀e∈l,e.2≠rb∧e.2≠m):
 Calls Tryz.prog 169 #[.pointer (some ⟨rb,o,none⟩), .pointer (some ⟨k,0,none⟩)] w fun e w'=>e= .returned (.tuple #[])∧(lu w' rb o t cs ((z,m)::l)∧ ∃p n,aV w' k 228 (iT x ⟨rb,o,none⟩ p n))∧aH (kN rb ((z,m)::l)) w w':=by
 obtain ⟨bk,sg⟩:=sg;have k2:w.cell? ⟨k,2,none⟩=some (.pointer none):=bk.cell 2;have k3:w.cell? ⟨k,3,none⟩=some (.pointer (some ⟨m,0,none⟩)):=bk.cell 3;have m2:w.cell? ⟨m,2,none⟩=some (.pointer (some ⟨k,0,none⟩)):=sg.1.cell 2;have r0:w.cell? ⟨rb,o,none⟩=some (.pointer (some ⟨k,0,none⟩)):=by rw [hb.cell];exact c0
 have f0:w.frozen? ⟨rb,o,none⟩=false:=hb.frozen o;have g2:w.frozen? ⟨m,2,none⟩=false:=sg.1.frozen 2;have HB:=Lib.hid hb;have BK:=Lib.hid bk;have SG:=Lib.hid sg;have C0:=Lib.hid c0;have C1:=Lib.hid c1;have HK:=Lib.hid hk;have HM:=Lib.hid hm;have HKM:=Lib.hid hkm;have HL:=Lib.hid hl;have hk':rb≠k:=fun h=>hk h.symm;have hm':rb≠m:=fun h=>hm h.symm;have abB:m≠k:=fun h=>hkm h.symm;clear hb bk sg c0 c1 hl;go_enter Tryz.func169,Tryz.ntmps169
 go_wp2;go_region_held3 (fun w'=>w'.cell? ⟨k,2,none⟩=some (.pointer none)∧w'.cell? ⟨k,3,none⟩=some (.pointer (some ⟨m,0,none⟩))) (first|go_keep|exact ⟨k2,k3⟩) (fail)
 go_wp2;refine bodyPost_end (results_none rfl _ _ _) rfl ?_;have b1:=(HB.out.put o (.pointer (some ⟨m,0,none⟩))).far (p:=⟨m,2,none⟩) (fun e=>HM.out e.symm) (.pointer none);have s1:=(SG.out.far (c:=⟨rb,o,none⟩) (fun e he=>by
  rcases List.mem_cons.1 he with rfl|he
  · exact HM.out
  · exact (HL.out e he).1) (.pointer (some ⟨m,0,none⟩))).prev (fun e he=>(HL.out e he).2) none
 refine ⟨rfl,⟨⟨_,b1,by simp, ?_, ?_,fun i h0 h1=> ?_,s1.drew⟩,none,some ⟨m,0,none⟩,(BK.out.far (p:=⟨rb,o,none⟩) HK.out _).far (p:=⟨m,2,none⟩) HKM.out _⟩,(((aH.refl _ w).setCell (p:=⟨rb,o,none⟩) (.inl (.inl rfl)) _).setCell (p:=⟨m,2,none⟩) (.inl (.inr ⟨_,List.mem_cons_self ..,rfl⟩)) _).drew⟩
 · exact j6 C0.out
 · rw [dQ (by omega)];exact C1.out
 · rw [dQ h0]
theorem QS {x y:Int} {k j:Nat} {l:List Sp} (hb:aV w rb t cs) (c0:cs[o]? =some (.pointer (dP (l++ [(y,j)]) none))) (c1:cs[o+1]? =some (.pointer (some ⟨k,0,none⟩)))
 (sg:dw w ⟨rb,o,none⟩ none (l++ [(y,j)]) (some ⟨k,0,none⟩)) (bk:aV w k 228 (iT x ⟨rb,o,none⟩ (some ⟨j,0,none⟩) none)) (hk:k≠rb) (hj:j≠rb) (hkj:k≠j) (hl: ∀e∈l,e.2≠rb∧e.2≠j):
 Calls Tryz.prog 169 #[.pointer (some ⟨rb,o,none⟩), .pointer (some ⟨k,0,none⟩)] w fun e w'=>e= .returned (.tuple #[])∧(lu w' rb o t cs (l++ [(y,j)])∧ ∃p n,aV w' k 228 (iT x ⟨rb,o,none⟩ p n))∧aH (kN rb (l++ [(y,j)])) w w':=by
 have bj:=(lN.1 sg).2;have k2:w.cell? ⟨k,2,none⟩=some (.pointer (some ⟨j,0,none⟩)):=bk.cell 2;have k3:w.cell? ⟨k,3,none⟩=some (.pointer none):=bk.cell 3;have j3:w.cell? ⟨j,3,none⟩=some (.pointer (some ⟨k,0,none⟩)):=bj.cell 3;have r1:w.cell? ⟨rb,o+1,none⟩=some (.pointer (some ⟨k,0,none⟩)):=by rw [hb.cell];exact c1
 have f1:w.frozen? ⟨rb,o+1,none⟩=false:=hb.frozen (o+1);have g3:w.frozen? ⟨j,3,none⟩=false:=bj.frozen 3;have HB:=Lib.hid hb;have BK:=Lib.hid bk;have SG:=Lib.hid sg;have C0:=Lib.hid c0;have C1:=Lib.hid c1;have HK:=Lib.hid hk;have HJ:=Lib.hid hj;have HKJ:=Lib.hid hkj;have HL:=Lib.hid hl;have hk':rb≠k:=fun h=>hk h.symm;have hj':rb≠j:=fun h=>hj h.symm;have Xk:j≠k:=fun h=>hkj h.symm;clear hb bk bj sg c0 c1 hl;go_enter Tryz.func169,Tryz.ntmps169
 go_wp2;go_region_held3 (fun w'=>w'.cell? ⟨k,2,none⟩=some (.pointer (some ⟨j,0,none⟩))∧w'.cell? ⟨k,3,none⟩=some (.pointer none)) (first|go_keep|exact ⟨k2,k3⟩) (fail)
 go_wp2;refine bodyPost_end (results_none rfl _ _ _) rfl ?_;have b1:=(HB.out.far (p:=⟨j,3,none⟩) (fun e=>HJ.out e.symm) (.pointer none)).put (o+1) (.pointer (some ⟨j,0,none⟩));have s1:=(SG.out.next (fun e he=>(HL.out e he).2) none).far (c:=⟨rb,o+1,none⟩) (fun e he=>by
  rcases List.mem_append.1 he with he|he
  · exact (HL.out e he).1
  · rw [List.mem_singleton.1 he];exact HJ.out) (.pointer (some ⟨j,0,none⟩))
 refine ⟨rfl,⟨⟨_,b1,by simp, ?_, ?_,fun i h0 h1=> ?_,s1.drew⟩,some ⟨j,0,none⟩,none,(BK.out.far (p:=⟨j,3,none⟩) HKJ.out _).far (p:=⟨rb,o+1,none⟩) HK.out _⟩,((aH.refl _ w).setCell (p:=⟨j,3,none⟩) (.inl (.inr ⟨(y,j),by simp,rfl⟩)) _).drew.setCell (p:=⟨rb,o+1,none⟩) (.inl (.inl rfl)) _⟩
 · rw [dQ (by omega)];exact C0.out
 · rw [jG];exact j6 C1.out
 · rw [dQ h1]
theorem UL {x y z:Int} {k j m:Nat} {l r:List Sp} (hb:aV w rb t cs) (c0:cs[o]? =some (.pointer (dP (l++ [(y,j)]) none))) (c1:cs[o+1]? =some (.pointer (fq ((z,m)::r) none)))
 (sg:dw w ⟨rb,o,none⟩ none (l++ [(y,j)]) (some ⟨k,0,none⟩)) (bk:aV w k 228 (iT x ⟨rb,o,none⟩ (some ⟨j,0,none⟩) (some ⟨m,0,none⟩))) (sr:dw w ⟨rb,o,none⟩ (some ⟨k,0,none⟩) ((z,m)::r) none)
 (hk:k≠rb) (hj:j≠rb) (hm:m≠rb) (hkj:k≠j) (hkm:k≠m) (hjm:j≠m) (hl: ∀e∈l,e.2≠rb∧e.2≠j∧e.2≠m) (hr: ∀e∈r,e.2≠rb∧e.2≠j∧e.2≠m):
 Calls Tryz.prog 169 #[.pointer (some ⟨rb,o,none⟩), .pointer (some ⟨k,0,none⟩)] w fun e w'=>e= .returned (.tuple #[])∧(lu w' rb o t cs (l++ [(y,j)]++(z,m)::r)∧ ∃p n,aV w' k 228 (iT x ⟨rb,o,none⟩ p n))∧aH (kN rb (l++ [(y,j)]++(z,m)::r)) w w':=by
 have bj:=(lN.1 sg).2;have k2:w.cell? ⟨k,2,none⟩=some (.pointer (some ⟨j,0,none⟩)):=bk.cell 2;have k3:w.cell? ⟨k,3,none⟩=some (.pointer (some ⟨m,0,none⟩)):=bk.cell 3;have j3:w.cell? ⟨j,3,none⟩=some (.pointer (some ⟨k,0,none⟩)):=bj.cell 3;have m2:w.cell? ⟨m,2,none⟩=some (.pointer (some ⟨k,0,none⟩)):=sr.1.cell 2;have g2:w.frozen? ⟨m,2,none⟩=false:=sr.1.frozen 2;have g3:w.frozen? ⟨j,3,none⟩=false:=bj.frozen 3;have HB:=Lib.hid hb;have BK:=Lib.hid bk;have SG:=Lib.hid sg;have SR:=Lib.hid sr;have C0:=Lib.hid c0;have C1:=Lib.hid c1;have HK:=Lib.hid hk;have HJ:=Lib.hid hj;have HM:=Lib.hid hm;have HKJ:=Lib.hid hkj;have HKM:=Lib.hid hkm;have HJM:=Lib.hid hjm;have HL:=Lib.hid hl;have HR:=Lib.hid hr;have Xk:j≠k:=fun h=>hkj h.symm;have abB:m≠k:=fun h=>hkm h.symm;have adY:m≠j:=fun h=>hjm h.symm;clear hb bk bj sg sr c0 c1 hl hr hk hj hm;go_enter Tryz.func169,Tryz.ntmps169
 go_wp2;go_region_held3 (fun w'=>w'.cell? ⟨k,2,none⟩=some (.pointer (some ⟨j,0,none⟩))∧w'.cell? ⟨k,3,none⟩=some (.pointer (some ⟨m,0,none⟩))) (first|go_keep|exact ⟨k2,k3⟩) (fail)
 go_wp2;go_region_held3 (fun w'=>w'.cell? ⟨k,2,none⟩=some (.pointer (some ⟨j,0,none⟩))∧w'.cell? ⟨k,3,none⟩=some (.pointer (some ⟨m,0,none⟩))) (first|go_keep|exact ⟨k2,k3⟩) (fail)
 go_wp2;refine bodyPost_end (results_none rfl _ _ _) rfl ?_;have b1:=(HB.out.far (p:=⟨j,3,none⟩) (fun e=>HJ.out e.symm) (.pointer (some ⟨m,0,none⟩))).far (p:=⟨m,2,none⟩) (fun e=>HM.out e.symm) (.pointer (some ⟨j,0,none⟩));have s1:=(SG.out.next (fun e he=>(HL.out e he).2.1) (some ⟨m,0,none⟩)).far (c:=⟨m,2,none⟩) (fun e he=>by
  rcases List.mem_append.1 he with he|he
  · exact (HL.out e he).2.2
  · rw [List.mem_singleton.1 he];exact HJM.out) (.pointer (some ⟨j,0,none⟩))
 have s2:=(SR.out.far (c:=⟨j,3,none⟩) (fun e he=>by
  rcases List.mem_cons.1 he with rfl|he
  · exact fun e=>HJM.out e.symm
  · exact (HR.out e he).2.1) (.pointer (some ⟨m,0,none⟩))).prev (fun e he=>(HR.out e he).2.2) (some ⟨j,0,none⟩)
 refine ⟨rfl,⟨⟨_,b1,rfl, ?_, ?_,fun i h0 h1=>rfl,xK.2 ⟨s1.drew.drew,by rw [jG];exact s2.drew.drew⟩⟩,some ⟨j,0,none⟩,some ⟨m,0,none⟩,(BK.out.far (p:=⟨j,3,none⟩) HKJ.out _).far (p:=⟨m,2,none⟩) HKM.out _⟩,(((aH.refl _ w).setCell (p:=⟨j,3,none⟩) (.inl (.inr ⟨(y,j),by simp,rfl⟩)) _).drew.setCell (p:=⟨m,2,none⟩) (.inl (.inr ⟨(z,m),by simp,rfl⟩)) _).drew⟩
 · rw [C0.out,sI]
   cases l<;>rfl
 · rw [C1.out,jG];rfl
theorem Ke {x:Int} {k:Nat} {a b:List Sp} (hb:aV w rb t cs) (c0:cs[o]? =some (.pointer (dP (a++(x,k)::b) none))) (c1:cs[o+1]? =some (.pointer (fq (a++(x,k)::b) none)))
 (sg:dw w ⟨rb,o,none⟩ none (a++(x,k)::b) none) (nd:(blks (a++(x,k)::b)).Nodup) (hr: ∀e∈a++(x,k)::b,e.2≠rb):
 Calls Tryz.prog 169 #[.pointer (some ⟨rb,o,none⟩), .pointer (some ⟨k,0,none⟩)] w fun e w'=>e= .returned (.tuple #[])∧(lu w' rb o t cs (a++b)∧ ∃p n,aV w' k 228 (iT x ⟨rb,o,none⟩ p n))∧aH (kN rb (a++b)) w w':=by
 have hk:k≠rb:=hr (x,k) (by simp);have nd':=nd;rw [blks,List.map_append,List.map_cons,List.nodup_append,List.nodup_cons] at nd';obtain ⟨n1,⟨n2,n3⟩,n4⟩:=nd';have hka: ∀e∈a,e.2≠k:=fun e he h=>n4 e.2 (List.mem_map.2 ⟨e,he,rfl⟩) k (List.mem_cons_self ..) h;have hkb: ∀e∈b,e.2≠k:=fun e he h=>n2 (by rw [←h];exact List.mem_map.2 ⟨e,he,rfl⟩);have hab: ∀e∈a,∀f∈b,e.2≠f.2:=fun e he f hf h=>n4 e.2 (List.mem_map.2 ⟨e,he,rfl⟩) f.2 (List.mem_cons_of_mem _ (List.mem_map.2 ⟨f,hf,rfl⟩)) h;rw [lM] at sg;obtain ⟨s1,bk,s2⟩:=sg;rw [sI] at c0;rw [jG] at c1;rcases List.eq_nil_or_concat a with rfl|⟨a',⟨y,j⟩,rfl⟩
 · cases b with
   |nil=>exact UK hb c0 c1 ⟨bk,trivial⟩ hk
   |cons f b'=>
    obtain ⟨z,m⟩:=f;rw [List.map_cons,List.nodup_cons] at n3;refine MW hb c0 (v:= .pointer none) c1 ⟨bk,s2⟩ hk (hr (z,m) (by simp)) (fun e=>hkb (z,m) (by simp) e.symm) fun e he=>⟨hr e (by simp [he]),fun h=>n3.1 (List.mem_map.2 ⟨e,he,h⟩)⟩
 · rw [List.concat_eq_append] at*
   rw [List.map_append,List.nodup_append] at n1;have hj: ∀e∈a',e.2≠j:=fun e he h=>n1.2.2 e.2 (List.mem_map.2 ⟨e,he,rfl⟩) j (by simp) h;rw [jG] at bk;have c0':cs[o]? =some (.pointer (dP (a'++ [(y,j)]) none)):=by rw [c0];cases a'<;>rfl
   cases b with
   |nil=>
    have h:=QS hb c0' c1 s1 bk hk (hr (y,j) (by simp)) (fun e=>hka (y,j) (by simp) e.symm) fun e he=>⟨hr e (by simp [he]),hj e he⟩;rw [List.append_nil];exact h
   |cons f b'=>
    obtain ⟨z,m⟩:=f;rw [List.map_cons,List.nodup_cons] at n3;exact UL hb c0' c1 s1 bk s2 hk (hr (y,j) (by simp)) (hr (z,m) (by simp)) (fun e=>hka (y,j) (by simp) e.symm) (fun e=>hkb (z,m) (by simp) e.symm) (hab (y,j) (by simp) (z,m) (by simp))
     (fun e he=>⟨hr e (by simp [he]),hj e he,hab e (by simp [he]) (z,m) (by simp)⟩)
     (fun e he=>⟨hr e (by simp [he]),fun h=>hab (y,j) (by simp) e (by simp [he]) h.symm,fun h=>n3.1 (List.mem_map.2 ⟨e,he,h⟩)⟩)
theorem add_one {x:Int} {k:Nat} {q p n:Option Addr} (hb:aV w rb t cs) (c0:cs[o]? =some (.pointer none)) (c1:cs[o+1]? =some (.pointer none))
 (bk:aV w k 228 #[.int .i64 x, .pointer q, .pointer p, .pointer n]) (hk:k≠rb):
 Calls Tryz.prog 172 #[.pointer (some ⟨rb,o,none⟩), .pointer (some ⟨k,0,none⟩)] w fun e w'=>e= .returned (.tuple #[])∧lu w' rb o t cs [(x,k)]∧aH (fun c=>c=rb∨c=k) w w':=by
 have k1:w.cell? ⟨k,1,none⟩=some (.pointer q):=bk.cell 1;have k2:w.cell? ⟨k,2,none⟩=some (.pointer p):=bk.cell 2;have k3:w.cell? ⟨k,3,none⟩=some (.pointer n):=bk.cell 3;have g1:w.frozen? ⟨k,1,none⟩=false:=bk.frozen 1;have g2:w.frozen? ⟨k,2,none⟩=false:=bk.frozen 2;have g3:w.frozen? ⟨k,3,none⟩=false:=bk.frozen 3;have r0:w.cell? ⟨rb,o,none⟩=some (.pointer none):=by rw [hb.cell];exact c0
 have r1:w.cell? ⟨rb,o+1,none⟩=some (.pointer none):=by rw [hb.cell];exact c1
 have f0:w.frozen? ⟨rb,o,none⟩=false:=hb.frozen o;have f1:w.frozen? ⟨rb,o+1,none⟩=false:=hb.frozen (o+1);have HB:=Lib.hid hb;have BK:=Lib.hid bk;have C0:=Lib.hid c0;have C1:=Lib.hid c1;have HK:=Lib.hid hk;have hk':rb≠k:=fun h=>hk h.symm;clear hb bk c0 c1;go_enter Tryz.func172,Tryz.ntmps172
 go_wp2;refine bodyPost_end (results_none rfl _ _ _) rfl ?_;have b1:=((((HB.out.far (p:=⟨k,1,none⟩) hk' (.pointer (some ⟨rb,o,none⟩))).far (p:=⟨k,2,none⟩) hk' (.pointer none)).far (p:=⟨k,3,none⟩) hk' (.pointer none)).put o (.pointer (some ⟨k,0,none⟩))).put (o+1) (.pointer (some ⟨k,0,none⟩));have b2:=((((BK.out.put 1 (.pointer (some ⟨rb,o,none⟩))).put 2 (.pointer none)).put 3 (.pointer none)).far (p:=⟨rb,o,none⟩) HK.out (.pointer (some ⟨k,0,none⟩))).far (p:=⟨rb,o+1,none⟩) HK.out (.pointer (some ⟨k,0,none⟩));have u1:=(((((aH.refl (fun c=>c=rb∨c=k) w).setCell (p:=⟨k,1,none⟩) (.inl (.inr rfl)) (.pointer (some ⟨rb,o,none⟩))).setCell (p:=⟨k,2,none⟩) (.inl (.inr rfl)) (.pointer none)).setCell (p:=⟨k,3,none⟩) (.inl (.inr rfl)) (.pointer none)).setCell (p:=⟨rb,o,none⟩) (.inl (.inl rfl)) (.pointer (some ⟨k,0,none⟩))).setCell (p:=⟨rb,o+1,none⟩) (.inl (.inl rfl)) (.pointer (some ⟨k,0,none⟩));refine ⟨rfl,⟨_,b1,by simp, ?_, ?_,fun i h0 h1=> ?_,by simpa [iT,dP] using b2,trivial⟩,u1⟩
 · rw [dQ (by omega)];exact j6 C0.out
 · exact j6 ((dQ (by omega)).trans C1.out)
 · rw [dQ h1,dQ h0]
theorem Rq {x y:Int} {k j:Nat} {l:List Sp} {q p n:Option Addr} (hb:aV w rb t cs) (c0:cs[o]? =some (.pointer (dP (l++ [(y,j)]) none))) (c1:cs[o+1]? =some (.pointer (some ⟨j,0,none⟩)))
 (sg:dw w ⟨rb,o,none⟩ none (l++ [(y,j)]) none) (bk:aV w k 228 #[.int .i64 x, .pointer q, .pointer p, .pointer n]) (hk:k≠rb) (hj:j≠rb) (hkj:k≠j) (hl: ∀e∈l,e.2≠rb∧e.2≠j∧e.2≠k):
 Calls Tryz.prog 172 #[.pointer (some ⟨rb,o,none⟩), .pointer (some ⟨k,0,none⟩)] w fun e w'=>e= .returned (.tuple #[])∧lu w' rb o t cs (l++ [(y,j)]++ [(x,k)])∧aH (fun c=>kN rb (l++ [(y,j)]) c∨c=k) w w':=by
 have bj:=(lN.1 sg).2;have k1:w.cell? ⟨k,1,none⟩=some (.pointer q):=bk.cell 1;have k2:w.cell? ⟨k,2,none⟩=some (.pointer p):=bk.cell 2;have k3:w.cell? ⟨k,3,none⟩=some (.pointer n):=bk.cell 3;have g1:w.frozen? ⟨k,1,none⟩=false:=bk.frozen 1;have g2:w.frozen? ⟨k,2,none⟩=false:=bk.frozen 2;have g3:w.frozen? ⟨k,3,none⟩=false:=bk.frozen 3;have j3:w.cell? ⟨j,3,none⟩=some (.pointer none):=bj.cell 3;have i3:w.frozen? ⟨j,3,none⟩=false:=bj.frozen 3;have r1:w.cell? ⟨rb,o+1,none⟩=some (.pointer (some ⟨j,0,none⟩)):=by rw [hb.cell];exact c1
 have f1:w.frozen? ⟨rb,o+1,none⟩=false:=hb.frozen (o+1);have HB:=Lib.hid hb;have BK:=Lib.hid bk;have SG:=Lib.hid sg;have C0:=Lib.hid c0;have C1:=Lib.hid c1;have HK:=Lib.hid hk;have HJ:=Lib.hid hj;have HKJ:=Lib.hid hkj;have HL:=Lib.hid hl;have hk':rb≠k:=fun h=>hk h.symm;have hj':rb≠j:=fun h=>hj h.symm;have Xk:j≠k:=fun h=>hkj h.symm;clear hb bk bj sg c0 c1 hl;go_enter Tryz.func172,Tryz.ntmps172
 go_wp2;refine bodyPost_end (results_none rfl _ _ _) rfl ?_;have b1:=((((HB.out.far (p:=⟨k,1,none⟩) hk' (.pointer (some ⟨rb,o,none⟩))).far (p:=⟨k,2,none⟩) hk' (.pointer (some ⟨j,0,none⟩))).far (p:=⟨k,3,none⟩) hk' (.pointer none)).far (p:=⟨j,3,none⟩) hj' (.pointer (some ⟨k,0,none⟩))).put (o+1) (.pointer (some ⟨k,0,none⟩));have b2:=((((BK.out.put 1 (.pointer (some ⟨rb,o,none⟩))).put 2 (.pointer (some ⟨j,0,none⟩))).put 3 (.pointer none)).far (p:=⟨j,3,none⟩) HKJ.out (.pointer (some ⟨k,0,none⟩))).far (p:=⟨rb,o+1,none⟩) HK.out (.pointer (some ⟨k,0,none⟩));have hlk: ∀e∈l++ [(y,j)],e.2≠k:=fun e he=>by
  rcases List.mem_append.1 he with he|he
  · exact (HL.out e he).2.2
  · rw [List.mem_singleton.1 he];exact Xk
 have hlr: ∀e∈l++ [(y,j)],e.2≠rb:=fun e he=>by
  rcases List.mem_append.1 he with he|he
  · exact (HL.out e he).1
  · rw [List.mem_singleton.1 he];exact HJ.out
 have s1:=((((SG.out.far (c:=⟨k,1,none⟩) hlk (.pointer (some ⟨rb,o,none⟩))).far (c:=⟨k,2,none⟩) hlk (.pointer (some ⟨j,0,none⟩))).far (c:=⟨k,3,none⟩) hlk (.pointer none)).next (fun e he=>(HL.out e he).2.1) (some ⟨k,0,none⟩)).far (c:=⟨rb,o+1,none⟩) hlr (.pointer (some ⟨k,0,none⟩));have u1:=(((((aH.refl (fun c=>kN rb (l++ [(y,j)]) c∨c=k) w).setCell (p:=⟨k,1,none⟩) (.inl (.inr rfl)) (.pointer (some ⟨rb,o,none⟩))).setCell (p:=⟨k,2,none⟩) (.inl (.inr rfl)) (.pointer (some ⟨j,0,none⟩))).setCell (p:=⟨k,3,none⟩) (.inl (.inr rfl)) (.pointer none)).setCell (p:=⟨j,3,none⟩) (.inl (.inl (.inr ⟨(y,j),by simp,rfl⟩))) (.pointer (some ⟨k,0,none⟩))).setCell (p:=⟨rb,o+1,none⟩) (.inl (.inl (.inl rfl))) (.pointer (some ⟨k,0,none⟩));refine ⟨rfl,⟨_,b1,by simp, ?_, ?_,fun i h0 h1=> ?_,lN.2 ⟨s1, ?_⟩⟩,u1⟩
 · rw [dQ (by omega),C0.out,sI]
   cases l<;>rfl
 · rw [jG];exact j6 C1.out
 · rw [dQ h1]
 · rw [jG];simpa [iT,fq] using b2
theorem CQ {x:Int} {k:Nat} {l:List Sp} {q p n:Option Addr} (hb:aV w rb t cs) (c0:cs[o]? =some (.pointer (dP l none))) (c1:cs[o+1]? =some (.pointer (fq l none)))
 (sg:dw w ⟨rb,o,none⟩ none l none) (bk:aV w k 228 #[.int .i64 x, .pointer q, .pointer p, .pointer n]) (nd:(blks l).Nodup) (hk:k≠rb) (hl: ∀e∈l,e.2≠rb∧e.2≠k):
 Calls Tryz.prog 172 #[.pointer (some ⟨rb,o,none⟩), .pointer (some ⟨k,0,none⟩)] w fun e w'=>e= .returned (.tuple #[])∧lu w' rb o t cs (l++ [(x,k)])∧aH (fun c=>kN rb l c∨c=k) w w':=by
 rcases List.eq_nil_or_concat l with rfl|⟨l',⟨y,j⟩,rfl⟩
 · exact (add_one hb c0 c1 bk hk).mono fun e w' ⟨h1,h2,h3⟩=>⟨h1,h2,h3.mono fun c hc=>hc.imp .inl id⟩
 · rw [List.concat_eq_append] at*
   rw [jG] at c1;rw [blks,List.map_append,List.nodup_append] at nd;exact Rq hb c0 c1 sg bk hk (hl (y,j) (by simp)).1 (fun e=>(hl (y,j) (by simp)).2 e.symm) fun e he=>⟨(hl e (by simp [he])).1,fun h=>nd.2.2 e.2 (List.mem_map.2 ⟨e,he,rfl⟩) j (by simp) h,(hl e (by simp [he])).2⟩
end
end Go.Proofs.YtpibbcnkgdmcbaaGreatDoor
namespace Go.Proofs.YtpibbcnkgdmcbaaGreatDoor
open Go.RowKit Go.Maps aB
def iU:Value→Option (DataW Unit×List MemPlace)
 | .pointer none=>some (.lit (.int .i64 (-1)), [])
 | .pointer (some ⟨b,0,none⟩)=>some (.lit (.int .i64 (b:Int)), [])
 |_=>none
theorem xG {v:Value} {k:Int} {ps:List MemPlace} (h:iU v=some (.lit (.int .i64 k),ps)):(k= -1∧v= .pointer none)∨ ∃b:Nat,k=(b:Int)∧v= .pointer (some ⟨b,0,none⟩):=by
 unfold iU at h;split at h
 · simp only [Option.some.injEq,Prod.mk.injEq,DataW.lit.injEq,Lit.int.injEq] at h
   exact .inl ⟨h.1.2.symm,rfl⟩
 · rename_i b
   simp only [Option.some.injEq,Prod.mk.injEq,DataW.lit.injEq,Lit.int.injEq] at h;exact .inr ⟨b,h.1.2.symm,rfl⟩
 · cases h
theorem WY:Keyed Tryz.prog 3:=int_keyed Tryz.underlying3
theorem V9 (w:World):(zeroValue 200).run Tryz.prog w= .ok (.pointer none) w:=by kernel_rfl
abbrev PK:DataW Unit:= .lit (.int .i64 (-1))
structure kY (D:DataW Unit) (l:List Sp):Prop where
 there: ∀e∈l,D.atKey (.int .i64 e.1) PK= .lit (.int .i64 (e.2:Int))
 none: ∀x:Int,x∉l.map (fun e=>e.1)→D.atKey (.int .i64 x) PK=PK
theorem Bc:kY (.map []) []:=⟨fun e h=>(by cases h),fun x _=>rfl⟩
theorem kY.perm {D:DataW Unit} {l l':List Sp} (h:kY D l) (hp:l.Perm l'):kY D l':=
 ⟨fun e he=>h.there e (hp.mem_iff.2 he),fun x hx=>h.none x fun hm=>hx ((hp.map _).mem_iff.1 hm)⟩
theorem kY.put {D:DataW Unit} {l:List Sp} (h:kY D l) (hD:IsMap D) {x:Int} {k:Nat} (hx:x∉l.map (fun e=>e.1)):kY (D.put (.int .i64 x) (.lit (.int .i64 (k:Int)))) ((x,k)::l):=by
 refine ⟨fun e he=> ?_,fun y hy=> ?_⟩
 · rcases List.mem_cons.1 he with rfl|he
   · exact atKey_put_same hD (by trivial) _ _
   · rw [atKey_put_other (fun hh=> ?_)]
     · exact h.there e he
     · injection hh with _ hh;exact hx (by rw [←hh];exact List.mem_map.2 ⟨e,he,rfl⟩)
 · rw [List.map_cons,List.mem_cons,not_or] at hy
   rw [atKey_put_other (fun hh=>by injection hh with _ hh;exact hy.1 hh)];exact h.none y hy.2
theorem kY.del {D:DataW Unit} {l:List Sp} {x:Int} {k:Nat} (h:kY D ((x,k)::l)) (hx:x∉l.map (fun e=>e.1)):kY (D.del (.int .i64 x)) l:=by
 refine ⟨fun e he=> ?_,fun y hy=> ?_⟩
 · rw [atKey_del_other (fun hh=> ?_)]
   · exact h.there e (List.mem_cons_of_mem _ he)
   · injection hh with _ hh;exact hx (by rw [←hh];exact List.mem_map.2 ⟨e,he,rfl⟩)
 · by_cases e:y=x
   · subst e;exact atKey_del_same _
   · rw [atKey_del_other (fun hh=>by injection hh with _ hh;exact e hh)]
     exact h.none y (by rw [List.map_cons,List.mem_cons,not_or];exact ⟨e,hy⟩)
theorem size_del {D:DataW Unit} {kl:Lit} {z:DataW Unit} (h:D.atKey kl z≠z):Maps.size (D.del kl)+1≤Maps.size D:=by
 cases D<;>try exact absurd rfl h
 rename_i es;show (es.filter fun p=> !p.1.sameKey kl).length+1≤es.length;have hex: ∃p∈es,p.1.sameKey kl=true:=by
  cases hf:es.find? (fun p=>p.1.sameKey kl) with
  |none=>exact (h (by simp only [DataW.atKey,hf])).elim
  |some p=>exact ⟨p,List.mem_of_find?_eq_some hf,by simpa using List.find?_some hf⟩
 obtain ⟨p,hp,hs⟩:=hex;have hlt:(es.filter fun p=> !p.1.sameKey kl).length<es.length:=by
  refine Nat.lt_of_le_of_ne (List.length_filter_le _ _) fun he=> ?_;have:=List.length_filter_eq_length_iff.1 he p hp;rw [hs] at this;cases this
 exact hlt
theorem zN {w:World} {P:Program} {k:TypeId} {R:Value→Option (DataW Unit×List MemPlace)} {b n m:Nat} {D:DataW Unit} (h:w.ownsMap P k R b n D) (hm:Maps.size D≤m):w.ownsMap P k R b m D:=by
 obtain ⟨es,clock,hb,F,hs,rfl⟩:=h;refine ⟨es,clock,hb,F, ?_,rfl⟩
 simpa [Maps.size,length_sorted] using hm
theorem xg {w w':World} {b:Nat} (h:w.mapTurned w' b):aH (fun k=>k=b) w w':=by
 obtain ⟨es,clock,es',clock',hb,rfl⟩:=h;exact ⟨rfl,rfl,rfl,by simp [ChangeMaps.setBlock],fun k _ hk=>ChangeMaps.heap_setBlock_other hb _ (fun e=>hk e)⟩
abbrev nums (l:List Sp):List Int:=l.map fun e=>e.1
structure bU (w:World) (rb mb:Nat) (R F:List Sp):Prop where
 blk:aV w rb 224 #[.pointer (dP R none), .pointer (fq R none), .pointer (dP F none), .pointer (fq F none), .map (some mb)]
 sr:dw w ⟨rb,0,none⟩ none R none
 sf:dw w ⟨rb,2,none⟩ none F none
 mp: ∃D,w.ownsMap Tryz.prog 3 iU mb (R++F).length D∧kY D (R++F)
 nd:(blks (R++F)).Nodup
 nn:(nums (R++F)).Nodup
 ne: ∀e∈R++F,e.2≠rb∧e.2≠mb∧e.2<w.heap.size
 nm:mb≠rb
 i64: ∀e∈R++F,gy e.1
section
variable {w w':World} {rb mb:Nat} {R F:List Sp}
theorem bU.upd {S:Nat→Prop} (h:bU w rb mb R F) (u:aH S w w') (h1: ¬S rb) (h2: ¬S mb) (h3: ∀e∈R++F,¬S e.2):bU w' rb mb R F:=by
 obtain ⟨D,hD,hA⟩:=h.mp;exact ⟨h.blk.upd u h1,h.sr.upd u fun e he=>h3 e (List.mem_append_left _ he),h.sf.upd u fun e he=>h3 e (List.mem_append_right _ he),⟨D,gU hD u h2,hA⟩,h.nd,h.nn,fun e he=>⟨(h.ne e he).1,(h.ne e he).2.1,Nat.lt_of_lt_of_le (h.ne e he).2.2 u.size⟩,h.nm,h.i64⟩
end
def o9 (w:World) (rb:Nat) (O:Nat→Prop) (S:QR):Prop:= ∃mb R F,bU w rb mb R F∧S=⟨nums R,nums F⟩∧O rb∧O mb∧ ∀e∈R++F,O e.2
theorem o9.upd {w w':World} {rb:Nat} {O S':Nat→Prop} {S:QR} (h:o9 w rb O S) (u:aH S' w w') (hs: ∀k,S' k→ ¬O k):o9 w' rb O S:=by
 obtain ⟨mb,R,F,h,rfl,h1,h2,h3⟩:=h;exact ⟨mb,R,F,h.upd u (fun x=>hs _ x h1) (fun x=>hs _ x h2) (fun e he x=>hs _ x (h3 e he)),rfl,h1,h2,h3⟩
theorem o9.mono {w:World} {rb:Nat} {O O':Nat→Prop} {S:QR} (h:o9 w rb O S) (hO: ∀k,O k→O' k):o9 w rb O' S:=by
 obtain ⟨mb,R,F,h,rfl,h1,h2,h3⟩:=h;exact ⟨mb,R,F,h,rfl,hO _ h1,hO _ h2,fun e he=>hO _ (h3 e he)⟩
theorem oC (R F:List Sp):QR.all ⟨nums R,nums F⟩=nums (R++F):=(List.map_append ..).symm
theorem yR (w:World) (x:Int):Calls Tryz.prog 168 #[.pointer none, .int .i64 x] w fun e w'=>e= .returned (.pointer none)∧w=w':=by
 go_enter Tryz.func168,Tryz.ntmps168
 go_wp2;go_ret;exact ⟨rfl,rfl⟩
theorem jZ {w:World} {rb mb:Nat} {R F:List Sp} (h:bU w rb mb R F) {x:Int} (hx:gy x):
 Calls Tryz.prog 168 #[.pointer (some ⟨rb,0,none⟩), .int .i64 x] w fun e w'=>(∃s,e= .returned (.pointer s)∧((s=none∧x∉nums (R++F))∨ ∃k,s=some ⟨k,0,none⟩∧(x,k)∈R++F))∧w=w':=by
 obtain ⟨D,hD,hA⟩:=h.mp;have c4:w.cell? ⟨rb,4,none⟩=some (.map (some mb)):=h.blk.cell 4;have hl: ∃s,(∀w2,w2=w→(Instr.lookup 222 (.map (some mb)) (.int .i64 x) false).run Tryz.prog w2= .ok (.pointer s) w2)∧((s=none∧x∉nums (R++F))∨ ∃k,s=some ⟨k,0,none⟩∧(x,k)∈R++F):=by
  obtain ⟨v,ps,hrun,hv⟩:=hD.lookup WY Tryz.underlying222 (V9 w) (show iU (.pointer none)=some (PK, []) from rfl) (show keyOf Tryz.prog 3 (.int .i64 x)=some (.int .i64 x) from keyOf_int_mk Tryz.underlying3 hx.wf);by_cases hm:x∈nums (R++F)
  · obtain ⟨⟨x',k⟩,he,rfl⟩:=List.mem_map.1 hm
    rw [hA.there _ he] at hv;rcases xG hv with ⟨h1,_⟩|⟨b,h1,rfl⟩
    · simp only at h1;omega
    · have h1':(k:Int)=(b:Int):=h1
      obtain rfl:k=b:=by omega
      exact ⟨_,fun w2 e=>by rw [e];exact hrun, .inr ⟨k,rfl,he⟩⟩
  · rw [hA.none x hm] at hv
    rcases xG hv with ⟨_,rfl⟩|⟨b,h1,_⟩
    · exact ⟨_,fun w2 e=>by rw [e];exact hrun, .inl ⟨rfl,hm⟩⟩
    · omega
 obtain ⟨s,hrun,hs⟩:=hl;have hr:=hrun w rfl;have HS:=Lib.hid hs;clear hrun hs h hD hA;go_enter Tryz.func168,Tryz.ntmps168
 go_wp2;go_ret;exact ⟨⟨s,rfl,HS.out⟩,rfl⟩
end Go.Proofs.YtpibbcnkgdmcbaaGreatDoor
namespace Go.Proofs.YtpibbcnkgdmcbaaGreatDoor
open Go.RowKit Go.Maps aB
abbrev RW:Nat:=168
section
variable {w:World} {rb mb k o:Nat} {x:Int} {t:TypeId} {cs:Array Value}
theorem DK (FN:Calls Tryz.prog 168 #[.pointer (some ⟨rb,0,none⟩), .int .i64 x] w fun e w'=>e= .returned (.pointer (some ⟨k,0,none⟩))∧w=w'):
 Calls Tryz.prog 178 #[.pointer (some ⟨rb,0,none⟩), .int .i64 x] w fun e w'=>e= .returned (.int .i64 6)∧w=w':=by
 have FN:=Lib.hid FN;go_enter Tryz.func178,Tryz.ntmps178
 go_wp2_with fail
 refine FN.out.mono ?_;rintro e w1 ⟨rfl,rfl⟩;go_wp2;go_ret;exact ⟨rfl,rfl⟩
theorem Ll {n:Nat} {D:DataW Unit} {Q:World→Prop} (hx:gy x) (FN:Calls Tryz.prog 168 #[.pointer (some ⟨rb,0,none⟩), .int .i64 x] w fun e w'=>e= .returned (.pointer none)∧w=w')
 (c4:w.cell? ⟨rb,4,none⟩=some (.map (some mb))) (hD:w.ownsMap Tryz.prog 3 iU mb n D) (hn:n≤many) (hk:k=w.heap.size)
 (AD: ∀w2,w2.ownsMap Tryz.prog 3 iU mb (n+1) (D.put (.int .i64 x) (.lit (.int .i64 (k:Int))))→(w.alloc (.cells #[.int .i64 x, .pointer none, .pointer none, .pointer none] 228)).mapTurned w2 mb→
  Calls Tryz.prog 172 #[.pointer (some ⟨rb,0,none⟩), .pointer (some ⟨k,0,none⟩)] w2 fun e w'=>e= .returned (.tuple #[])∧Q w'):
 Calls Tryz.prog 178 #[.pointer (some ⟨rb,0,none⟩), .int .i64 x] w fun e w'=>e= .returned (.int .i64 0)∧Q w':=by
 subst hk;have hn':n≤1000000:=hn;have KEY:=Lib.hid (keyOf_int_mk (P:=Tryz.prog) Tryz.underlying3 hx.wf);have VAL:=Lib.hid (show iU (.pointer (some ⟨w.heap.size,0,none⟩))=some (.lit (.int .i64 (w.heap.size:Int)), []) from rfl);have FN:=Lib.hid FN;have M:=Lib.hid (hD.alloc (.cells #[.int .i64 x, .pointer none, .pointer none, .pointer none] 228));have AD:=Lib.hid AD;have hlt:w.heap.size≠rb:=fun e=>by have:=World.block_lt_of_cell? w _ c4;simp only at this;omega
 have c4':(w.alloc (.cells #[.int .i64 x, .pointer none, .pointer none, .pointer none] 228)).cell? ⟨rb,4,none⟩=some (.map (some mb)):=by rw [Below.cell ((Below.refl _ w).alloc (Nat.le_refl _) _) (by have:=World.block_lt_of_cell? w _ c4;exact this)];exact c4
 clear hD hn;go_enter Tryz.func178,Tryz.ntmps178
 go_wp2_with fail
 refine FN.out.mono ?_;rintro e w1 ⟨rfl,rfl⟩;go_wp2_with (at_mapUpdate;refine wpList_mapUpdate_in _ rfl _ _ _ 222 rfl 3 200 WY Tryz.underlying222 _ mb n D rfl M.out (by unfold maxLen;omega) _ _ _ rfl rfl KEY.out _ [] VAL.out ?_;intro w9 hown1 hturn1;have K9:=Lib.hid (AD.out w9 hown1 hturn1);clear hown1 hturn1)
 go_wp2_with fail
 refine K9.out.mono ?_;rintro e w2 ⟨rfl,hq⟩;have HQ:=Lib.hid hq;clear hq;go_wp2;go_ret;exact ⟨rfl,HQ.out⟩
theorem rJ {p:Option Addr} (FN:Calls Tryz.prog 168 #[.pointer p, .int .i64 x] w fun e w'=>e= .returned (.pointer none)∧w=w'):
 Calls Tryz.prog 146 #[.pointer p, .int .i64 x] w fun e w'=>e= .returned (.int .i64 5)∧w=w':=by
 have FN:=Lib.hid FN;go_enter Tryz.func146,Tryz.ntmps146
 go_wp2_with fail
 refine FN.out.mono ?_;rintro e w1 ⟨rfl,rfl⟩;go_wp2;go_ret;exact ⟨rfl,rfl⟩
theorem ql {n:Nat} {D:DataW Unit} {Q Q':World→Prop} (hx:gy x) (FN:Calls Tryz.prog 168 #[.pointer (some ⟨rb,0,none⟩), .int .i64 x] w fun e w'=>e= .returned (.pointer (some ⟨k,0,none⟩))∧w=w')
 (c1:w.cell? ⟨k,1,none⟩=some (.pointer (some ⟨rb,o,none⟩)))
 (CT:Calls Tryz.prog 169 #[.pointer (some ⟨rb,o,none⟩), .pointer (some ⟨k,0,none⟩)] w fun e w'=>e= .returned (.tuple #[])∧Q w')
 (hQ: ∀w1,Q w1→w1.cell? ⟨rb,4,none⟩=some (.map (some mb))∧w1.ownsMap Tryz.prog 3 iU mb n D)
 (hQ': ∀w1 w2,Q w1→w2.ownsMap Tryz.prog 3 iU mb n (D.del (.int .i64 x))→w1.mapTurned w2 mb→Q' w2):
 Calls Tryz.prog 146 #[.pointer (some ⟨rb,0,none⟩), .int .i64 x] w fun e w'=>e= .returned (.int .i64 0)∧Q' w':=by
 have KEY:=Lib.hid (keyOf_int_mk (P:=Tryz.prog) Tryz.underlying3 hx.wf);have FN:=Lib.hid FN;have CT:=Lib.hid CT;have HQ:=Lib.hid hQ;have HQ':=Lib.hid hQ';clear hQ hQ';go_enter Tryz.func146,Tryz.ntmps146
 go_wp2_with fail
 refine FN.out.mono ?_;rintro e w1 ⟨rfl,rfl⟩;go_wp2_with fail
 refine CT.out.mono ?_;rintro e w2 ⟨rfl,hq⟩;obtain ⟨c4,hD⟩:=HQ.out w2 hq;have Q2:=Lib.hid hq;have M:=Lib.hid hD;clear hq hD c1;go_wp2_with (at_delete;refine wpList_delete_own _ rfl _ _ 222 3 rfl 200 WY Tryz.underlying222 _ mb n D rfl M.out _ _ rfl KEY.out ?_;intro w9 hown1 hturn1;have K9:=Lib.hid (HQ'.out w2 w9 Q2.out hown1 hturn1);clear hown1 hturn1)
 go_wp2;go_ret;exact ⟨rfl,K9.out⟩
theorem Ee {w:World} {a b:Addr} {ta tb:TypeId} {ca cb:Array Value} (hb:aV w b.block tb cb) (ha:aV w a.block ta ca) (hne:a≠b):
 (binOp .neq 226 (.pointer (some a)) (.pointer (some b))).run Tryz.prog w= .ok (.bool true) w:=by
 have hi:(Tryz.prog.info? 202).map (fun j=>j.size)=some 2:=by kernel_rfl
 cases hj:Tryz.prog.info? 202 with
 |none=>rw [hj] at hi;cases hi
 |some j=>
  rw [hj] at hi;exact rH Tryz.underlying226 hj (by simp at hi;omega) hne ha hb
theorem Ka (w:World) (a:Addr):(binOp .neq 226 (.pointer (some a)) (.pointer (some a))).run Tryz.prog w= .ok (.bool false) w:=by
 have hi:(Tryz.prog.info? 202).map (fun j=>j.size)=some 2:=by kernel_rfl
 cases hj:Tryz.prog.info? 202 with
 |none=>rw [hj] at hi;cases hi
 |some j=>exact run_neq_ptr_same a Tryz.underlying226 hj
theorem yX {p:Option Addr} (FN:Calls Tryz.prog 168 #[.pointer p, .int .i64 x] w fun e w'=>e= .returned (.pointer none)∧w=w'):
 Calls Tryz.prog 149 #[.pointer p, .int .i64 x] w fun e w'=>e= .returned (.int .i64 5)∧aH (fun _=>False) w w':=by
 have FN:=Lib.hid FN;go_enter Tryz.func149,Tryz.ntmps149
 go_wp2_with fail
 refine FN.out.mono ?_;rintro e w1 ⟨rfl,rfl⟩;go_wp2;go_quiet (fail)
 go_wp2;go_ret;exact ⟨rfl,⟨rfl,rfl,rfl,Nat.le_refl _,fun _ _ _=>rfl⟩⟩
theorem EZ (FN:Calls Tryz.prog 168 #[.pointer (some ⟨rb,0,none⟩), .int .i64 x] w fun e w'=>e= .returned (.pointer (some ⟨k,0,none⟩))∧w=w')
 (c1:w.cell? ⟨k,1,none⟩=some (.pointer (some ⟨rb,2,none⟩))) (hb:aV w rb t cs):
 Calls Tryz.prog 149 #[.pointer (some ⟨rb,0,none⟩), .int .i64 x] w fun e w'=>e= .returned (.int .i64 5)∧aH (fun _=>False) w w':=by
 have NE:=Ee (w:=w.drew) (b:=⟨rb,0,none⟩) hb (a:=⟨rb,2,none⟩) hb (by simp);have FN:=Lib.hid FN;go_enter Tryz.func149,Tryz.ntmps149
 go_wp2_with fail
 refine FN.out.mono ?_;rintro e w1 ⟨rfl,rfl⟩;go_wp2;go_region_held3 (fun w'=>w'.cell? ⟨k,1,none⟩=some (.pointer (some ⟨rb,2,none⟩))∧(binOp .neq 226 (.pointer (some ⟨rb,2,none⟩)) (.pointer (some ⟨rb,0,none⟩))).run Tryz.prog w'= .ok (.bool true) w') (first|go_keep|exact ⟨c1,NE⟩) (fail)
 go_wp2;go_ret;exact ⟨rfl,⟨rfl,rfl,rfl,Nat.le_refl _,fun _ _ _=>rfl⟩⟩
theorem EY {Q Q':World→Prop} (FN:Calls Tryz.prog 168 #[.pointer (some ⟨rb,0,none⟩), .int .i64 x] w fun e w'=>e= .returned (.pointer (some ⟨k,0,none⟩))∧w=w')
 (c1:w.cell? ⟨k,1,none⟩=some (.pointer (some ⟨rb,0,none⟩)))
 (CT:Calls Tryz.prog 169 #[.pointer (some ⟨rb,0,none⟩), .pointer (some ⟨k,0,none⟩)] w.drew fun e w'=>e= .returned (.tuple #[])∧Q w')
 (AD: ∀w1,Q w1→Calls Tryz.prog 172 #[.pointer (some ⟨rb,2,none⟩), .pointer (some ⟨k,0,none⟩)] w1 fun e w'=>e= .returned (.tuple #[])∧Q' w'):
 Calls Tryz.prog 149 #[.pointer (some ⟨rb,0,none⟩), .int .i64 x] w fun e w'=>e= .returned (.int .i64 0)∧Q' w':=by
 have NE:=Ka w.drew ⟨rb,0,none⟩;have FN:=Lib.hid FN;have CT:=Lib.hid CT;have AD:=Lib.hid AD;go_enter Tryz.func149,Tryz.ntmps149
 go_wp2_with fail
 refine FN.out.mono ?_;rintro e w1 ⟨rfl,rfl⟩;go_wp2;go_region_held3 (fun w'=>w'.cell? ⟨k,1,none⟩=some (.pointer (some ⟨rb,0,none⟩))∧(binOp .neq 226 (.pointer (some ⟨rb,0,none⟩)) (.pointer (some ⟨rb,0,none⟩))).run Tryz.prog w'= .ok (.bool false) w') (first|go_keep|exact ⟨c1,NE⟩) (fail)
 go_wp2_with fail
 refine CT.out.mono ?_;rintro e w2 ⟨rfl,hq⟩;have K2:=Lib.hid (AD.out w2 hq);clear hq;go_wp2_with fail
 refine K2.out.mono ?_;rintro e w3 ⟨rfl,hq⟩;have Q3:=Lib.hid hq;clear hq;go_wp2;go_ret;exact ⟨rfl,Q3.out⟩
theorem w_ {p:Option Addr} (FN:Calls Tryz.prog 168 #[.pointer p, .int .i64 x] w fun e w'=>e= .returned (.pointer none)∧w=w'):
 Calls Tryz.prog 179 #[.pointer p, .int .i64 x] w fun e w'=>e= .returned (.int .i64 5)∧aH (fun _=>False) w w':=by
 have FN:=Lib.hid FN;go_enter Tryz.func179,Tryz.ntmps179
 go_wp2_with fail
 refine FN.out.mono ?_;rintro e w1 ⟨rfl,rfl⟩;go_wp2;go_quiet (fail)
 go_wp2;go_ret;exact ⟨rfl,⟨rfl,rfl,rfl,Nat.le_refl _,fun _ _ _=>rfl⟩⟩
theorem Dc (FN:Calls Tryz.prog 168 #[.pointer (some ⟨rb,0,none⟩), .int .i64 x] w fun e w'=>e= .returned (.pointer (some ⟨k,0,none⟩))∧w=w')
 (c1:w.cell? ⟨k,1,none⟩=some (.pointer (some ⟨rb,0,none⟩))) (hb:aV w rb t cs):
 Calls Tryz.prog 179 #[.pointer (some ⟨rb,0,none⟩), .int .i64 x] w fun e w'=>e= .returned (.int .i64 5)∧aH (fun _=>False) w w':=by
 have NE:=Ee (w:=w.drew) (b:=⟨rb,2,none⟩) hb (a:=⟨rb,0,none⟩) hb (by simp);have FN:=Lib.hid FN;go_enter Tryz.func179,Tryz.ntmps179
 go_wp2_with fail
 refine FN.out.mono ?_;rintro e w1 ⟨rfl,rfl⟩;go_wp2;go_region_held3 (fun w'=>w'.cell? ⟨k,1,none⟩=some (.pointer (some ⟨rb,0,none⟩))∧(binOp .neq 226 (.pointer (some ⟨rb,0,none⟩)) (.pointer (some ⟨rb,2,none⟩))).run Tryz.prog w'= .ok (.bool true) w') (first|go_keep|exact ⟨c1,NE⟩) (fail)
 go_wp2;go_ret;exact ⟨rfl,⟨rfl,rfl,rfl,Nat.le_refl _,fun _ _ _=>rfl⟩⟩
theorem Db {Q Q':World→Prop} (FN:Calls Tryz.prog 168 #[.pointer (some ⟨rb,0,none⟩), .int .i64 x] w fun e w'=>e= .returned (.pointer (some ⟨k,0,none⟩))∧w=w')
 (c1:w.cell? ⟨k,1,none⟩=some (.pointer (some ⟨rb,2,none⟩)))
 (CT:Calls Tryz.prog 169 #[.pointer (some ⟨rb,2,none⟩), .pointer (some ⟨k,0,none⟩)] w.drew fun e w'=>e= .returned (.tuple #[])∧Q w')
 (AD: ∀w1,Q w1→Calls Tryz.prog 172 #[.pointer (some ⟨rb,0,none⟩), .pointer (some ⟨k,0,none⟩)] w1 fun e w'=>e= .returned (.tuple #[])∧Q' w'):
 Calls Tryz.prog 179 #[.pointer (some ⟨rb,0,none⟩), .int .i64 x] w fun e w'=>e= .returned (.int .i64 0)∧Q' w':=by
 have NE:=Ka w.drew ⟨rb,2,none⟩;have FN:=Lib.hid FN;have CT:=Lib.hid CT;have AD:=Lib.hid AD;go_enter Tryz.func179,Tryz.ntmps179
 go_wp2_with fail
 refine FN.out.mono ?_;rintro e w1 ⟨rfl,rfl⟩;go_wp2;go_region_held3 (fun w'=>w'.cell? ⟨k,1,none⟩=some (.pointer (some ⟨rb,2,none⟩))∧(binOp .neq 226 (.pointer (some ⟨rb,2,none⟩)) (.pointer (some ⟨rb,2,none⟩))).run Tryz.prog w'= .ok (.bool false) w') (first|go_keep|exact ⟨c1,NE⟩) (fail)
 go_wp2_with fail
 refine CT.out.mono ?_;rintro e w2 ⟨rfl,hq⟩;have K2:=Lib.hid (AD.out w2 hq);clear hq;go_wp2_with fail
 refine K2.out.mono ?_;rintro e w3 ⟨rfl,hq⟩;have Q3:=Lib.hid hq;clear hq;go_wp2;go_ret;exact ⟨rfl,Q3.out⟩
end
end Go.Proofs.YtpibbcnkgdmcbaaGreatDoor
namespace Go.Proofs.YtpibbcnkgdmcbaaGreatDoor
open Go.RowKit Go.Maps aB
theorem rows_lit {cs:Array Value} {a b c d e:Value} (hs:cs.size=5) (h0:cs[0]? =some a) (h1:cs[1]? =some b) (h2:cs[2]? =some c) (h3:cs[3]? =some d) (h4:cs[4]? =some e):cs= #[a,b,c,d,e]:=by
 apply Array.ext
 · rw [hs];rfl
 · intro i hi hj
   have h:cs[i]? = #[a,b,c,d,e][i]? :=by
    match i,hi with
    |0,_=>exact h0
    |1,_=>exact h1
    |2,_=>exact h2
    |3,_=>exact h3
    |4,_=>exact h4
    |n+5,hi=>omega
   rw [Array.getElem?_eq_getElem hi,Array.getElem?_eq_getElem hj] at h;injection h
theorem uj {w:World} {rb:Nat} {t:TypeId} {l:List Sp} {r1 r2 f1 f2 m:Value} (h:lu w rb 0 t #[r1,r2,f1,f2,m] l):aV w rb t #[.pointer (dP l none), .pointer (fq l none),f1,f2,m]∧dw w ⟨rb,0,none⟩ none l none:=by
 obtain ⟨cs,hb,hs,h0,h1,hc,hg⟩:=h;rw [rows_lit hs h0 h1 (hc 2 (by decide) (by decide)) (hc 3 (by decide) (by decide)) (hc 4 (by decide) (by decide))] at hb;exact ⟨hb,hg⟩
theorem Eb {w:World} {rb:Nat} {t:TypeId} {l:List Sp} {r1 r2 f1 f2 m:Value} (h:lu w rb 2 t #[r1,r2,f1,f2,m] l):aV w rb t #[r1,r2, .pointer (dP l none), .pointer (fq l none),m]∧dw w ⟨rb,2,none⟩ none l none:=by
 obtain ⟨cs,hb,hs,h0,h1,hc,hg⟩:=h;rw [rows_lit hs (hc 0 (by decide) (by decide)) (hc 1 (by decide) (by decide)) h0 h1 (hc 4 (by decide) (by decide))] at hb;exact ⟨hb,hg⟩
theorem Ah {l:List Sp} (nn:(nums l).Nodup) {x:Int} {k k':Nat} (h:(x,k)∈l) (h':(x,k')∈l):k=k':=by
 induction l with
 |nil=>cases h
 |cons e t ih=>
  rw [nums,List.map_cons,List.nodup_cons] at nn;rcases List.mem_cons.1 h with rfl|h3
  · rcases List.mem_cons.1 h' with e'|h'
    · injection e' with _ e';exact e'.symm
    · exact absurd (List.mem_map.2 ⟨_,h',rfl⟩) nn.1
  · rcases List.mem_cons.1 h' with e'|h4
    · exact absurd (show e.1∈nums t from List.mem_map.2 ⟨(x,k),h3,by rw [←e']⟩) nn.1
    · exact ih nn.2 h3 h4
def Own (rb mb:Nat) (l:List Sp) (c:Nat):Prop:=c=rb∨c=mb∨ ∃e∈l,c=e.2
section
variable {w w':World} {rb mb k:Nat} {x:Int} {R F a b:List Sp}
theorem bU.made {w:World} {rb mb:Nat} {R F l:List Sp} {D:DataW Unit} (blk:aV w rb 224 #[.pointer (dP R none), .pointer (fq R none), .pointer (dP F none), .pointer (fq F none), .map (some mb)])
 (sr:dw w ⟨rb,0,none⟩ none R none) (sf:dw w ⟨rb,2,none⟩ none F none) (hD:w.ownsMap Tryz.prog 3 iU mb l.length D) (hA:kY D l) (hp:l.Perm (R++F)) (nd:(blks l).Nodup) (nn:(nums l).Nodup)
 (ne: ∀e∈l,e.2≠rb∧e.2≠mb∧e.2<w.heap.size) (nm:mb≠rb) (i64: ∀e∈l,gy e.1):bU w rb mb R F:=
 ⟨blk,sr,sf,⟨D,by rw [←hp.length_eq];exact hD,hA.perm hp⟩,(hp.map _).nodup_iff.1 nd,(hp.map _).nodup_iff.1 nn,fun e he=>ne e (hp.mem_iff.2 he),nm,fun e he=>i64 e (hp.mem_iff.2 he)⟩
theorem bU.len (h:bU w rb mb R F):(QR.all ⟨nums R,nums F⟩).length=(R++F).length:=by rw [oC];exact List.length_map _
theorem rows_push (h:bU w rb mb R F) (hx:gy x) (hn:x∉nums (R++F)) (hm:(R++F).length≤many):
 Calls Tryz.prog 178 #[.pointer (some ⟨rb,0,none⟩), .int .i64 x] w fun e w'=>e= .returned (.int .i64 0)∧bU w' rb mb (R++ [(x,w.heap.size)]) F∧aH (Own rb mb (R++F)) w w':=by
 obtain ⟨D,hD,hA⟩:=h.mp;have hk: ∀e∈R++F,e.2≠w.heap.size:=fun e he=>by have:=(h.ne e he).2.2;omega
 have hrk:rb≠w.heap.size:=by have:=h.blk.lt;omega
 have hmk:mb≠w.heap.size:=by have:=hD.lt;omega
 refine Ll hx ((jZ h hx).mono fun e w' ⟨⟨s,h1,h2⟩,h3⟩=>⟨?_,h3⟩) (h.blk.cell 4) hD hm rfl fun w2 hown hturn=> ?_
 · rcases h2 with ⟨rfl,_⟩|⟨k,rfl,h4⟩
   · exact h1
   · exact absurd (List.mem_map.2 ⟨_,h4,rfl⟩) hn
 · have u1:=(aH.refl (fun _=>False) w).alloc (.cells #[.int .i64 x, .pointer none, .pointer none, .pointer none] 228)
   have u2:=xg hturn;have bk:aV w2 w.heap.size 228 #[.int .i64 x, .pointer none, .pointer none, .pointer none]:=(aV.new w _ _).upd u2 fun e=>hmk e.symm;have b2:=(h.blk.upd u1 id).upd u2 fun e=>h.nm e.symm;have s2:=(h.sr.upd u1 fun _ _=>id).upd u2 fun e he=>(h.ne e (List.mem_append_left _ he)).2.1;have nd:=h.nd;rw [blks,List.map_append,List.nodup_append] at nd;refine (CQ (o:=0) b2 rfl rfl s2 bk nd.1 (fun e=>hrk e.symm) fun e he=>⟨(h.ne e (List.mem_append_left _ he)).1,hk e (List.mem_append_left _ he)⟩).mono fun e w3 ⟨e1,e2,u3⟩=>⟨e1, ?_, ?_⟩
   · obtain ⟨b3,s3⟩:=uj e2
     have hF: ∀e∈F,¬(kN rb R e.2∨e.2=w.heap.size):=fun e he hh=>by
      rcases hh with (hh|⟨f,hf,hh⟩)|hh
      · exact (h.ne e (List.mem_append_right _ he)).1 hh
      · exact nd.2.2 f.2 (List.mem_map.2 ⟨f,hf,rfl⟩) e.2 (List.mem_map.2 ⟨e,he,rfl⟩) hh.symm
      · exact hk e (List.mem_append_right _ he) hh
     have sF:=((h.sf.upd u1 fun _ _=>id).upd u2 fun e he=>(h.ne e (List.mem_append_right _ he)).2.1).upd u3 hF;have hM:=gU hown u3 fun hh=>by
      rcases hh with (hh|⟨f,hf,hh⟩)|hh
      · exact h.nm hh
      · exact (h.ne f (List.mem_append_left _ hf)).2.1 hh.symm
      · exact hmk hh
     have hsz:w.heap.size+1≤w3.heap.size:=by have:=u2.size;have:=u3.size;rw [World.size_alloc] at*;omega
     refine bU.made (l:=(x,w.heap.size)::(R++F)) b3 s3 sF hM (hA.put hD.isMap hn) ?_ ?_ ?_ ?_ h.nm ?_
     · rw [List.append_assoc];exact List.perm_middle.symm
     · exact List.nodup_cons.2 ⟨fun hh=>by obtain ⟨e,he,h5⟩:=List.mem_map.1 hh;exact hk e he h5,h.nd⟩
     · exact List.nodup_cons.2 ⟨hn,h.nn⟩
     · intro e he
       rcases List.mem_cons.1 he with rfl|he
       · exact ⟨fun e=>hrk e.symm,fun e=>hmk e.symm,hsz⟩
       · exact ⟨(h.ne e he).1,(h.ne e he).2.1,by have:=(h.ne e he).2.2;omega⟩
     · intro e he
       rcases List.mem_cons.1 he with rfl|he
       · exact hx
       · exact h.i64 e he
   · refine (((u1.mono fun _ x=>x.elim).step u2 fun i hi=> ?_).step u3 fun i hi=> ?_)
     · exact .inl (.inr (.inl hi))
     · rcases hi with (hi|⟨f,hf,hi⟩)|hi
       · exact .inl (.inl hi)
       · exact .inl (.inr (.inr ⟨f,List.mem_append_left _ hf,hi⟩))
       · exact .inr (by omega)
theorem rows_push_there (h:bU w rb mb R F) (hx:gy x) (hn:x∈nums (R++F)):
 Calls Tryz.prog 178 #[.pointer (some ⟨rb,0,none⟩), .int .i64 x] w fun e w'=>e= .returned (.int .i64 6)∧w=w':=by
 obtain ⟨⟨x',k⟩,hk,rfl⟩:=List.mem_map.1 hn;refine DK (k:=k) ((jZ h hx).mono fun e w' ⟨⟨s,h1,h2⟩,h3⟩=>⟨?_,h3⟩);rcases h2 with ⟨_,h2⟩|⟨k',rfl,h4⟩
 · exact absurd hn h2
 · rw [h1,Ah h.nn h4 hk]
theorem uN (h:bU w rb mb R F) (hx:gy x) (hn:x∉nums (R++F)):Calls Tryz.prog 168 #[.pointer (some ⟨rb,0,none⟩), .int .i64 x] w fun e w'=>e= .returned (.pointer none)∧w=w':=
 (jZ h hx).mono fun e w' ⟨⟨s,h1,h2⟩,h3⟩=>⟨by
  rcases h2 with ⟨rfl,_⟩|⟨k,rfl,h4⟩
  · exact h1
  · exact absurd (List.mem_map.2 ⟨_,h4,rfl⟩) hn,h3⟩
theorem jv (h:bU w rb mb R F) (hx:gy x) (hk:(x,k)∈R++F):Calls Tryz.prog 168 #[.pointer (some ⟨rb,0,none⟩), .int .i64 x] w fun e w'=>e= .returned (.pointer (some ⟨k,0,none⟩))∧w=w':=
 (jZ h hx).mono fun e w' ⟨⟨s,h1,h2⟩,h3⟩=>⟨by
  rcases h2 with ⟨_,h2⟩|⟨k',rfl,h4⟩
  · exact absurd (List.mem_map.2 ⟨_,hk,rfl⟩) h2
  · rw [h1,Ah h.nn h4 hk],h3⟩
theorem bU.drew (h:bU w rb mb R F):bU w.drew rb mb R F:=h.upd ((aH.refl (fun _=>False) w).drew) id id fun _ _=>id
theorem rows_cut_ready (h:bU w rb mb (a++(x,k)::b) F):
 Calls Tryz.prog 169 #[.pointer (some ⟨rb,0,none⟩), .pointer (some ⟨k,0,none⟩)] w fun e w'=>e= .returned (.tuple #[])∧
  aV w' rb 224 #[.pointer (dP (a++b) none), .pointer (fq (a++b) none), .pointer (dP F none), .pointer (fq F none), .map (some mb)]∧dw w' ⟨rb,0,none⟩ none (a++b) none∧dw w' ⟨rb,2,none⟩ none F none∧
  (∃p n,aV w' k 228 (iT x ⟨rb,0,none⟩ p n))∧aH (kN rb (a++b)) w w':=by
 have nd:=h.nd;rw [blks,List.map_append,List.nodup_append] at nd;refine (Ke (o:=0) h.blk rfl rfl h.sr nd.1 fun e he=>(h.ne e (List.mem_append_left _ he)).1).mono fun e w' ⟨e1,⟨e2,e3⟩,u⟩=> ?_;obtain ⟨b2,s2⟩:=uj e2;refine ⟨e1,b2,s2,h.sf.upd u fun e he hh=> ?_,e3,u⟩;rcases hh with hh|⟨f,hf,hh⟩
 · exact (h.ne e (List.mem_append_right _ he)).1 hh
 · refine nd.2.2 f.2 (List.mem_map.2 ⟨f, ?_,rfl⟩) e.2 (List.mem_map.2 ⟨e,he,rfl⟩) hh.symm
   rcases List.mem_append.1 hf with hf|hf<;>simp [hf]
theorem rows_cut_full (h:bU w rb mb R (a++(x,k)::b)):
 Calls Tryz.prog 169 #[.pointer (some ⟨rb,2,none⟩), .pointer (some ⟨k,0,none⟩)] w fun e w'=>e= .returned (.tuple #[])∧
  aV w' rb 224 #[.pointer (dP R none), .pointer (fq R none), .pointer (dP (a++b) none), .pointer (fq (a++b) none), .map (some mb)]∧dw w' ⟨rb,0,none⟩ none R none∧dw w' ⟨rb,2,none⟩ none (a++b) none∧
  (∃p n,aV w' k 228 (iT x ⟨rb,2,none⟩ p n))∧aH (kN rb (a++b)) w w':=by
 have nd:=h.nd;rw [blks,List.map_append,List.nodup_append] at nd;refine (Ke (o:=2) h.blk rfl rfl h.sf nd.2.1 fun e he=>(h.ne e (List.mem_append_right _ he)).1).mono fun e w' ⟨e1,⟨e2,e3⟩,u⟩=> ?_;obtain ⟨b2,s2⟩:=Eb e2;refine ⟨e1,b2,h.sr.upd u fun e he hh=> ?_,s2,e3,u⟩;rcases hh with hh|⟨f,hf,hh⟩
 · exact (h.ne e (List.mem_append_left _ he)).1 hh
 · refine nd.2.2 e.2 (List.mem_map.2 ⟨e,he,rfl⟩) f.2 (List.mem_map.2 ⟨f, ?_,rfl⟩) hh
   rcases List.mem_append.1 hf with hf|hf<;>simp [hf]
theorem rA (u:aH (kN rb (a++b)) w w') {l:List Sp} (hl: ∀e∈a++b,e∈l):aH (Own rb mb l) w w':=u.mono fun c hc=>by
 rcases hc with hc|⟨f,hf,hc⟩
 · exact .inl hc
 · exact .inr (.inr ⟨f,hl f hf,hc⟩)
theorem rows_less {w1 w2:World} {R' F':List Sp} {n:Nat} {D:DataW Unit} (h:bU w rb mb R F) (hp:(R++F).Perm ((x,k)::(R'++F')))
 (b1:aV w1 rb 224 #[.pointer (dP R' none), .pointer (fq R' none), .pointer (dP F' none), .pointer (fq F' none), .map (some mb)]) (s1:dw w1 ⟨rb,0,none⟩ none R' none) (s2:dw w1 ⟨rb,2,none⟩ none F' none)
 (u1:aH (Own rb mb (R++F)) w w1) (hD:Maps.size D≤(R++F).length) (hA:kY D (R++F)) (hM:w2.ownsMap Tryz.prog 3 iU mb n (D.del (.int .i64 x))) (hT:w1.mapTurned w2 mb):
 bU w2 rb mb R' F'∧aH (Own rb mb (R++F)) w w2:=by
 have u2:=xg hT;have hin: ∀e∈R'++F',e∈R++F:=fun e he=>hp.mem_iff.2 (List.mem_cons_of_mem _ he);have nn:=(hp.map fun e=>e.1).nodup_iff.1 h.nn;have nd:=(hp.map fun e=>e.2).nodup_iff.1 h.nd;rw [List.map_cons,List.nodup_cons] at nn nd;have hA':=hA.perm hp;refine ⟨bU.made (l:=R'++F') (b1.upd u2 fun e=>h.nm e.symm) (s1.upd u2 fun e he=>(h.ne e (hin e (List.mem_append_left _ he))).2.1) (s2.upd u2 fun e he=>(h.ne e (hin e (List.mem_append_right _ he))).2.1) (zN hM ?_) (hA'.del nn.1) (List.Perm.refl _) nd.2 nn.2 (fun e he=>⟨(h.ne e (hin e he)).1,(h.ne e (hin e he)).2.1, ?_⟩) h.nm (fun e he=>h.i64 e (hin e he)),u1.trans (u2.mono fun c hc=> .inr (.inl hc))⟩
 · have:=size_del (D:=D) (kl:= .int .i64 x) (z:=PK) (by rw [hA'.there (x,k) (List.mem_cons_self ..)];intro e;simp only [DataW.lit.injEq,Lit.int.injEq,true_and] at e;omega)
   have h2:=hp.length_eq;rw [List.length_cons] at h2;omega
 · have:=(h.ne e (hin e he)).2.2
   have:=u1.size;have:=u2.size;omega
theorem pJ {l:List Sp} {e:Sp} (h:e∈l): ∃a b,l=a++e::b:=List.append_of_mem h
theorem bU.size (h:bU w rb mb R F): ∃D,w.ownsMap Tryz.prog 3 iU mb (R++F).length D∧Maps.size D≤(R++F).length∧kY D (R++F):=by
 obtain ⟨D,hD,hA⟩:=h.mp;exact ⟨D,hD,hD.size_le,hA⟩
theorem rows_remove_ready (h:bU w rb mb (a++(x,k)::b) F) (hx:gy x):
 Calls Tryz.prog 146 #[.pointer (some ⟨rb,0,none⟩), .int .i64 x] w fun e w'=>e= .returned (.int .i64 0)∧bU w' rb mb (a++b) F∧aH (Own rb mb (a++(x,k)::b++F)) w w':=by
 obtain ⟨D,hD,hs,hA⟩:=h.size;have bk:=(lM.1 h.sr).2.1;have hp:(a++(x,k)::b++F).Perm ((x,k)::(a++b++F)):=by rw [List.append_assoc,List.cons_append,List.append_assoc a b F];exact List.perm_middle
 refine ql (k:=k) (o:=0) (D:=D) hx (jv h hx (by simp)) (bk.cell 1) (rows_cut_ready h) (fun w1 ⟨q1,q2,q3,q4,q5⟩=>⟨q1.cell 4,gU hD q5 fun hh=> ?_⟩) fun w1 w2 ⟨q1,q2,q3,q4,q5⟩ hM hT=>rows_less h hp q1 q2 q3 (rA q5 fun e he=> ?_) hs hA hM hT
 · rcases hh with hh|⟨f,hf,hh⟩
   · exact h.nm hh
   · exact (h.ne f (by rcases List.mem_append.1 hf with hf|hf<;>simp [hf])).2.1 hh.symm
 · rcases List.mem_append.1 he with hf|hf<;>simp [hf]
theorem rows_remove_full (h:bU w rb mb R (a++(x,k)::b)) (hx:gy x):
 Calls Tryz.prog 146 #[.pointer (some ⟨rb,0,none⟩), .int .i64 x] w fun e w'=>e= .returned (.int .i64 0)∧bU w' rb mb R (a++b)∧aH (Own rb mb (R++(a++(x,k)::b))) w w':=by
 obtain ⟨D,hD,hs,hA⟩:=h.size;have bk:=(lM.1 h.sf).2.1;have hp:(R++(a++(x,k)::b)).Perm ((x,k)::(R++(a++b))):=by rw [←List.append_assoc,←List.append_assoc];exact List.perm_middle
 refine ql (k:=k) (o:=2) (D:=D) hx (jv h hx (by simp)) (bk.cell 1) (rows_cut_full h) (fun w1 ⟨q1,q2,q3,q4,q5⟩=>⟨q1.cell 4,gU hD q5 fun hh=> ?_⟩) fun w1 w2 ⟨q1,q2,q3,q4,q5⟩ hM hT=>rows_less h hp q1 q2 q3 (rA q5 fun e he=> ?_) hs hA hM hT
 · rcases hh with hh|⟨f,hf,hh⟩
   · exact h.nm hh
   · exact (h.ne f (by rcases List.mem_append.1 hf with hf|hf<;>simp [hf])).2.1 hh.symm
 · rcases List.mem_append.1 he with hf|hf<;>simp [hf]
theorem rows_moved {w2:World} {R' F':List Sp} (h:bU w rb mb R F) (hp:(R++F).Perm (R'++F'))
 (b1:aV w2 rb 224 #[.pointer (dP R' none), .pointer (fq R' none), .pointer (dP F' none), .pointer (fq F' none), .map (some mb)]) (s1:dw w2 ⟨rb,0,none⟩ none R' none) (s2:dw w2 ⟨rb,2,none⟩ none F' none)
 (u:aH (kN rb (R++F)) w w2):bU w2 rb mb R' F'∧aH (Own rb mb (R++F)) w w2:=by
 obtain ⟨D,hD,hA⟩:=h.mp;refine ⟨bU.made (l:=R++F) b1 s1 s2 (gU hD u fun hh=> ?_) hA hp h.nd h.nn (fun e he=>⟨(h.ne e he).1,(h.ne e he).2.1,Nat.lt_of_lt_of_le (h.ne e he).2.2 u.size⟩) h.nm h.i64,u.mono fun c hc=> ?_⟩
 · rcases hh with hh|⟨f,hf,hh⟩
   · exact h.nm hh
   · exact (h.ne f hf).2.1 hh.symm
 · rcases hc with hc|hc
   · exact .inl hc
   · exact .inr (.inr hc)
theorem rows_fill (h:bU w rb mb (a++(x,k)::b) F) (hx:gy x):
 Calls Tryz.prog 149 #[.pointer (some ⟨rb,0,none⟩), .int .i64 x] w fun e w'=>e= .returned (.int .i64 0)∧bU w' rb mb (a++b) (F++ [(x,k)])∧aH (Own rb mb (a++(x,k)::b++F)) w w':=by
 have bk:=(lM.1 h.sr).2.1;have hp:(a++(x,k)::b++F).Perm (a++b++(F++ [(x,k)])):=by
  refine List.Perm.trans (l₂:=(x,k)::(a++b++F)) ?_ ?_
  · rw [List.append_assoc,List.cons_append,List.append_assoc a b F];exact List.perm_middle
  · rw [←List.append_assoc];exact (List.perm_append_singleton _ _).symm
 have nd:=(hp.map fun e=>e.2).nodup_iff.1 h.nd;have T_:=nd;rw [List.map_append,List.nodup_append] at T_;have WM:=T_.2.1;rw [List.map_append,List.nodup_append] at WM;refine EY (k:=k) (jv h hx (by simp)) (bk.cell 1) (rows_cut_ready h.drew) fun w1 ⟨q1,q2,q3,⟨p,n,q4⟩,q5⟩=> ?_;refine (CQ (o:=2) q1 rfl rfl q3 q4 WM.1 (h.ne (x,k) (by simp)).1 fun e he=>⟨(h.ne e (by simp [he])).1,fun hh=>WM.2.2 e.2 (List.mem_map.2 ⟨e,he,rfl⟩) k (by simp) hh⟩).mono fun e w2 ⟨e1,e2,u2⟩=>⟨e1, ?_⟩;obtain ⟨b2,s2⟩:=Eb e2;refine rows_moved h hp b2 (q2.upd u2 fun e he hh=> ?_) s2 ((((aH.refl _ w).drew.trans (q5.mono fun c hc=> ?_):aH (kN rb (a++(x,k)::b++F)) w w1).trans (u2.mono fun c hc=> ?_)))
 · have he':e.2∈List.map (fun e:Sp=>e.2) (a++b):=List.mem_map.2 ⟨e,he,rfl⟩
   rcases hh with (hh|⟨f,hf,hh⟩)|hh
   · exact (h.ne e (by rcases List.mem_append.1 he with he|he<;>simp [he])).1 hh
   · exact T_.2.2 e.2 he' f.2 (List.mem_map.2 ⟨f,List.mem_append_left _ hf,rfl⟩) hh
   · exact T_.2.2 e.2 he' k (by simp) hh
 · rcases hc with hc|⟨f,hf,hc⟩
   · exact .inl hc
   · exact .inr ⟨f,by rcases List.mem_append.1 hf with hf|hf<;>simp [hf],hc⟩
 · rcases hc with (hc|⟨f,hf,hc⟩)|hc
   · exact .inl hc
   · exact .inr ⟨f,by simp [hf],hc⟩
   · exact .inr ⟨(x,k),by simp,hc⟩
theorem rows_wake (h:bU w rb mb R (a++(x,k)::b)) (hx:gy x):
 Calls Tryz.prog 179 #[.pointer (some ⟨rb,0,none⟩), .int .i64 x] w fun e w'=>e= .returned (.int .i64 0)∧bU w' rb mb (R++ [(x,k)]) (a++b)∧aH (Own rb mb (R++(a++(x,k)::b))) w w':=by
 have bk:=(lM.1 h.sf).2.1;have hp:(R++(a++(x,k)::b)).Perm (R++ [(x,k)]++(a++b)):=by
  rw [List.append_assoc];exact List.Perm.append_left R List.perm_middle
 have nd:=(hp.map fun e=>e.2).nodup_iff.1 h.nd;have T_:=nd;rw [List.map_append,List.nodup_append] at T_;have WM:=T_.1;rw [List.map_append,List.nodup_append] at WM;refine Db (k:=k) (jv h hx (by simp)) (bk.cell 1) (rows_cut_full h.drew) fun w1 ⟨q1,q2,q3,⟨p,n,q4⟩,q5⟩=> ?_;refine (CQ (o:=0) q1 rfl rfl q2 q4 WM.1 (h.ne (x,k) (by simp)).1 fun e he=>⟨(h.ne e (by simp [he])).1,fun hh=>WM.2.2 e.2 (List.mem_map.2 ⟨e,he,rfl⟩) k (by simp) hh⟩).mono fun e w2 ⟨e1,e2,u2⟩=>⟨e1, ?_⟩;obtain ⟨b2,s2⟩:=uj e2;refine rows_moved h hp b2 s2 (q3.upd u2 fun e he hh=> ?_) ((((aH.refl _ w).drew.trans (q5.mono fun c hc=> ?_):aH (kN rb (R++(a++(x,k)::b))) w w1).trans (u2.mono fun c hc=> ?_)))
 · have he':e.2∈List.map (fun e:Sp=>e.2) (a++b):=List.mem_map.2 ⟨e,he,rfl⟩
   rcases hh with (hh|⟨f,hf,hh⟩)|hh
   · exact (h.ne e (by rcases List.mem_append.1 he with he|he<;>simp [he])).1 hh
   · exact T_.2.2 f.2 (List.mem_map.2 ⟨f,List.mem_append_left _ hf,rfl⟩) e.2 he' hh.symm
   · exact T_.2.2 k (by simp) e.2 he' hh.symm
 · rcases hc with hc|⟨f,hf,hc⟩
   · exact .inl hc
   · exact .inr ⟨f,by rcases List.mem_append.1 hf with hf|hf<;>simp [hf],hc⟩
 · rcases hc with (hc|⟨f,hf,hc⟩)|hc
   · exact .inl hc
   · exact .inr ⟨f,by simp [hf],hc⟩
   · exact .inr ⟨(x,k),by simp,hc⟩
end
section
variable {w:World} {rb:Nat} {O:Nat→Prop} {S:QR} {x:Int}
theorem xW {rb mb:Nat} {l:List Sp} (h1:O rb) (h2:O mb) (h3: ∀e∈l,O e.2): ∀c,Own rb mb l c→O c:=fun c hc=>by
 rcases hc with rfl|rfl|⟨e,he,rfl⟩
 · exact h1
 · exact h2
 · exact h3 e he
theorem wG {a b:List Sp} {k:Nat} (nn:(nums (a++(x,k)::b)).Nodup):aB.out (nums (a++(x,k)::b)) x=nums (a++b):=by
 have e:nums (a++(x,k)::b)=nums a++x::nums b:=by simp [nums]
 rw [e] at nn⊢;rw [List.nodup_append,List.nodup_cons] at nn;have h1:aB.out (nums a) x=nums a:=j_ fun h=>nn.2.2 x h x (List.mem_cons_self ..) rfl;have h2:aB.out (nums b) x=nums b:=j_ nn.2.1.1;unfold aB.out at*
 rw [List.filter_append,List.filter_cons_of_neg (by simp),h1,h2];simp [nums]
theorem kg (a b:List Sp):nums (a++b)=nums a++nums b:=List.map_append ..
def gZ (w:World) (rb:Nat) (O:Nat→Prop) (S':QR) (a:Int) (e:Ending) (w':World):Prop:=
 e= .returned (.int .i64 a)∧ ∃O',o9 w' rb O' S'∧(∀k,O k→O' k)∧(∀k,O' k→O k∨(w.heap.size≤k∧k<w'.heap.size))∧aH O w w'
theorem gZ.same {e:Ending} {w':World} {S':QR} {a:Int} (h1:e= .returned (.int .i64 a)) (h2:o9 w' rb O S') (u:aH O w w'):gZ w rb O S' a e w':=
 ⟨h1,O,h2,fun _=>id,fun _=> .inl,u⟩
theorem Tq (hN:o9 w rb O S) (hx:gy x) (hm:S.all.length≤many):Calls Tryz.prog 178 #[.pointer (some ⟨rb,0,none⟩), .int .i64 x] w fun e w'=>gZ w rb O (bK S [x]).1 (bK S [x]).2 e w':=by
 obtain ⟨mb,R,F,h,rfl,h1,h2,h3⟩:=id hN;by_cases hn:x∈QR.all ⟨nums R,nums F⟩
 · rw [gT hn]
   rw [oC] at hn;exact (rows_push_there h hx hn).mono fun e w' ⟨e1,e2⟩=>by subst e2;exact gZ.same e1 hN (aH.refl _ _)
 · rw [fB hn]
   rw [oC] at hn;rw [h.len] at hm;refine (rows_push h hx hn hm).mono fun e w' ⟨e1,e2,u⟩=>⟨e1,fun c=>O c∨c=w.heap.size,⟨mb,R++ [(x,w.heap.size)],F,e2, ?_, .inl h1, .inl h2,fun e he=> ?_⟩,fun k=> .inl,fun k hk=> ?_,u.mono (xW h1 h2 h3)⟩
   · rw [kg];rfl
   · rcases List.mem_append.1 he with he|he
     · rcases List.mem_append.1 he with he|he
       · exact .inl (h3 e (List.mem_append_left _ he))
       · rw [List.mem_singleton.1 he];exact .inr rfl
     · exact .inl (h3 e (List.mem_append_right _ he))
   · refine hk.imp id fun hk=>⟨by omega, ?_⟩
     have:=(e2.ne (x,w.heap.size) (by simp)).2.2;rw [hk];exact this
theorem Lb (hN:o9 w rb O S) (hx:gy x):Calls Tryz.prog 146 #[.pointer (some ⟨rb,0,none⟩), .int .i64 x] w fun e w'=>gZ w rb O (aX S [x]).1 (aX S [x]).2 e w':=by
 obtain ⟨mb,R,F,h,rfl,h1,h2,h3⟩:=id hN;by_cases hn:x∈QR.all ⟨nums R,nums F⟩
 · rw [dW hn]
   rw [oC] at hn;obtain ⟨⟨x',k⟩,hk,rfl⟩:=List.mem_map.1 hn;have nn:=h.nn;rw [nums,List.map_append,List.nodup_append] at nn;rcases List.mem_append.1 hk with hk|hk
   · obtain ⟨a,b,rfl⟩:=pJ hk
     refine (rows_remove_ready h hx).mono fun e w' ⟨e1,e2,u⟩=>gZ.same e1 ⟨mb,a++b,F,e2, ?_,h1,h2,fun e he=>h3 e ?_⟩ (u.mono (xW h1 h2 h3))
     · rw [wG nn.1,j_ fun hh=>nn.2.2 x' (List.mem_map.2 ⟨_,hk,rfl⟩) x' hh rfl]
     · rcases List.mem_append.1 he with he|he
       · rcases List.mem_append.1 he with he|he<;>simp [he]
       · simp [he]
   · obtain ⟨a,b,rfl⟩:=pJ hk
     refine (rows_remove_full h hx).mono fun e w' ⟨e1,e2,u⟩=>gZ.same e1 ⟨mb,R,a++b,e2, ?_,h1,h2,fun e he=>h3 e ?_⟩ (u.mono (xW h1 h2 h3))
     · rw [wG nn.2.1,j_ fun hh=>nn.2.2 x' hh x' (List.mem_map.2 ⟨_,hk,rfl⟩) rfl]
     · rcases List.mem_append.1 he with he|he
       · simp [he]
       · rcases List.mem_append.1 he with he|he<;>simp [he]
 · rw [fO hn]
   rw [oC] at hn;exact (rJ (uN h hx hn)).mono fun e w' ⟨e1,e2⟩=>by subst e2;exact gZ.same e1 hN (aH.refl _ _)
theorem Tt (hN:o9 w rb O S) (hx:gy x):Calls Tryz.prog 149 #[.pointer (some ⟨rb,0,none⟩), .int .i64 x] w fun e w'=>gZ w rb O (eO S x).1 (eO S x).2 e w':=by
 obtain ⟨mb,R,F,h,rfl,h1,h2,h3⟩:=id hN;have nn:=h.nn;rw [nums,List.map_append,List.nodup_append] at nn;by_cases hn:x∈nums R
 · rw [sM hn]
   obtain ⟨⟨x',k⟩,hk,rfl⟩:=List.mem_map.1 hn;obtain ⟨a,b,rfl⟩:=pJ hk;refine (rows_fill h hx).mono fun e w' ⟨e1,e2,u⟩=>gZ.same e1 ⟨mb,a++b,F++ [(x',k)],e2, ?_,h1,h2,fun e he=>h3 e ?_⟩ (u.mono (xW h1 h2 h3))
   · rw [wG nn.1,kg F];rfl
   · rcases List.mem_append.1 he with he|he
     · rcases List.mem_append.1 he with he|he<;>simp [he]
     · rcases List.mem_append.1 he with he|he
       · simp [he]
       · rw [List.mem_singleton.1 he];simp
 · rw [wU hn]
   by_cases hf:x∈nums F
   · obtain ⟨⟨x',k⟩,hk,rfl⟩:=List.mem_map.1 hf
     obtain ⟨p',n',bk⟩:=h.sf.at hk;exact (EZ (jv h hx (List.mem_append_right _ hk)) (bk.cell 1) h.blk).mono fun e w' ⟨e1,u⟩=>gZ.same e1 (o9.upd hN u fun _ x=>x.elim) (u.mono fun _ x=>x.elim)
   · exact (yX (uN h hx (by rw [kg];exact fun hh=>(List.mem_append.1 hh).elim hn hf))).mono fun e w' ⟨e1,u⟩=>gZ.same e1 (o9.upd hN u fun _ x=>x.elim) (u.mono fun _ x=>x.elim)
theorem Tp (hN:o9 w rb O S) (hx:gy x):Calls Tryz.prog 179 #[.pointer (some ⟨rb,0,none⟩), .int .i64 x] w fun e w'=>gZ w rb O (dK S x).1 (dK S x).2 e w':=by
 obtain ⟨mb,R,F,h,rfl,h1,h2,h3⟩:=id hN;have nn:=h.nn;rw [nums,List.map_append,List.nodup_append] at nn;by_cases hn:x∈nums F
 · rw [rz hn]
   obtain ⟨⟨x',k⟩,hk,rfl⟩:=List.mem_map.1 hn;obtain ⟨a,b,rfl⟩:=pJ hk;refine (rows_wake h hx).mono fun e w' ⟨e1,e2,u⟩=>gZ.same e1 ⟨mb,R++ [(x',k)],a++b,e2, ?_,h1,h2,fun e he=>h3 e ?_⟩ (u.mono (xW h1 h2 h3))
   · rw [wG nn.2.1,kg R];rfl
   · rcases List.mem_append.1 he with he|he
     · rcases List.mem_append.1 he with he|he
       · simp [he]
       · rw [List.mem_singleton.1 he];simp
     · rcases List.mem_append.1 he with he|he<;>simp [he]
 · rw [show dK ⟨nums R,nums F⟩ x=(⟨nums R,nums F⟩,5) from if_neg hn]
   by_cases hf:x∈nums R
   · obtain ⟨⟨x',k⟩,hk,rfl⟩:=List.mem_map.1 hf
     obtain ⟨p',n',bk⟩:=h.sr.at hk;exact (Dc (jv h hx (List.mem_append_left _ hk)) (bk.cell 1) h.blk).mono fun e w' ⟨e1,u⟩=>gZ.same e1 (o9.upd hN u fun _ x=>x.elim) (u.mono fun _ x=>x.elim)
   · exact (w_ (uN h hx (by rw [kg];exact fun hh=>(List.mem_append.1 hh).elim hf hn))).mono fun e w' ⟨e1,u⟩=>gZ.same e1 (o9.upd hN u fun _ x=>x.elim) (u.mono fun _ x=>x.elim)
end
end Go.Proofs.YtpibbcnkgdmcbaaGreatDoor
namespace Go.Proofs.YtpibbcnkgdmcbaaGreatDoor
open Go.RowKit Go.Maps aB
abbrev Jg:=List (Addr×List Sp)
def eZ (L:Jg):List Int:=L.flatMap fun r=>nums r.2
def Rd (w:World) (g off:Nat) (L:Jg):Prop:= ∀i r,L[i]? =some r→w.cell? ⟨g,off+i*2,none⟩=some (.pointer (dP r.2 none))∧w.cell? ⟨g,off+i*2+1,none⟩=some (.pointer (fq r.2 none))∧dw w r.1 none r.2 none
theorem Rd.grew {w w':World} {g off:Nat} {L:Jg} (h:Rd w g off L) (hb:Below w.heap.size w w'):Rd w' g off L:=fun i r hr=>by
 obtain ⟨h1,h2,h3⟩:=h i r hr;exact ⟨(hb.cell (World.block_lt_of_cell? w _ h1)).trans h1,(hb.cell (World.block_lt_of_cell? w _ h2)).trans h2,h3.grew hb⟩
theorem Aa (L:Jg) {t:Nat} {r:Addr×List Sp} (h:L[t]? =some r):eZ (L.take (t+1))=eZ (L.take t)++nums r.2:=by
 rw [List.take_add_one,h];simp [eZ]
theorem SE (L:Jg) (t:Nat):(eZ (L.take t)).length≤(eZ L).length:=by
 have e:eZ L=eZ (L.take t)++eZ (L.drop t):=by
  unfold eZ;rw [←List.flatMap_append,List.take_append_drop]
 rw [e,List.length_append];omega
def ToR (w:World) (L:Jg) (n:Nat) (v i:Value) (wr:World):Prop:=
 ∃(t:Nat) (v0:Value),t≤n∧i= .int .i64 (t:Int)∧v0=v∧Vec Elem.ints wr v (eZ (L.take t))∧(∀k,In v k→w.heap.size≤k)∧Below w.heap.size w wr
def InR (w:World) (l:List Int) (r:List Sp) (g:Nat) (v s:Value) (wr:World):Prop:=
 ∃(dn rest:List Sp) (v0:Value),r=dn++rest∧g=rest.length∧s= .pointer (dP rest none)∧v0=v∧Vec Elem.ints wr v (l++nums dn)∧(∀k,In v k→w.heap.size≤k)∧Below w.heap.size w wr
theorem rD (w:World) {g off n:Nat} {L:Jg} (h:Rd w g off L) (hn:n=L.length) (hn2:n≤2) (hm:(eZ L).length≤many):
 Calls Tryz.prog 141 #[.slice (some ⟨g,off,none⟩) n n] w fun e w'=> ∃v,e= .returned v∧Vec Elem.ints w' v (eZ L)∧(∀k,In v k→w.heap.size≤k)∧Below w.heap.size w w':=by
 obtain ⟨i0,hi,hz0,hz1,hz2⟩:=info_parts JY;have H:=Lib.hid h;have HN:=Lib.hid hn;have HM:=Lib.hid (show (eZ L).length≤1000000 from hm);have I0:=Lib.hid (show ToR w L n (.slice none 0 0) (.int .i64 0) w from ⟨0,_,Nat.zero_le _,rfl,rfl,Vec.nil _,(by intro k hk;cases hk),Below.refl _ _⟩);clear h hn hm;go_enter Tryz.func141,Tryz.ntmps141
 go_wp2;go_loopw [3,9] (fun v i wr=>ToR w L n v i wr) (fun _ i _=>n-(intOf i).toNat)
 case atStart=>exact I0.out
 case round=>
  clear I0;obtain ⟨t,v,ht,rfl,rfl,hv,hin,hb⟩:=hrel;have B:=Lib.hid hb;have V:=Lib.hid hv;have NI:=Lib.hid hin;by_cases htn:t<n
  · obtain ⟨r,hr⟩: ∃r,L[t]? =some r:=⟨_,List.getElem?_eq_getElem (by have:=HN.out;omega)⟩
    have RD:=Lib.hid (H.out.grew hb);obtain ⟨c0,c1,-⟩:=RD.out t r hr;have HR:=Lib.hid hr;obtain ⟨ra,l⟩:=r;obtain ⟨p0,hp0⟩: ∃p,dP l none=p:=⟨_,rfl⟩;obtain ⟨p1,hp1⟩: ∃p,fq l none=p:=⟨_,rfl⟩;rw [show (ra,l).2=l from rfl,hp0] at c0;rw [show (ra,l).2=l from rfl,hp1] at c1;obtain ⟨T,hT⟩: ∃T,eZ (L.take t)=T:=⟨_,rfl⟩;have HT:=Lib.hid hT;have I1:Hid (∀o,InR w T l l.length v (.pointer p0) (wr.alloc o)):=Lib.hid fun o=>⟨[],l,_,rfl,rfl,by rw [hp0],rfl,by rw [←hT];simpa [nums] using hv.alloc o,hin,hb.alloc hb.size o⟩;have t2:decide ((t:Int)<(n:Int))=true:=decide_eq_true (by omega);have t2':decide (t<n)=true:=decide_eq_true htn;have q3:(0:Int)≤(t:Int):=by omega
    have q4:(t:Int)<(n:Int):=by omega
    clear hv hin hb hr hp0 hp1 hT;go_wp2
    go_loopg [3,6] l.length (fun k v s wr=>InR w T l k v s wr)
    case atStart=>exact I1.out _
    case round=>
     clear I1 c0 c1 V NI B;obtain ⟨dn,rest,v,hl,rfl,rfl,rfl,hv,hin,hb⟩:=hrel;have LN:Hid ((T++nums l).length≤1000000):=Lib.hid (by rw [←HT.out,←Aa L HR.out];exact Nat.le_trans (SE L _) HM.out);cases rest with
     |nil=>
      have NX:=Lib.hid (show ToR w L n v (.int .i64 ((t+1:Nat):Int)) wr from ⟨t+1,_,htn,rfl,rfl,by rw [Aa L HR.out,HT.out,hl,List.append_nil];exact hv,hin,hb⟩);rw [show ((t+1:Nat):Int)=(t:Int)+1 by omega] at NX;clear hv hin hb hl;go_wp2;go_roundw
      case rel=>exact NX.out
      case measure=>simp [intOf];omega
     |cons e rest=>
      obtain ⟨x,k⟩:=e;have sg:=(H.out t _ HR.out).2.2;rw [show ((ra,l):Addr×List Sp).2=l from rfl,hl,lM] at sg;obtain ⟨-,bk,-⟩:=sg;obtain ⟨p,hp⟩: ∃p,dP rest none=p:=⟨_,rfl⟩;rw [hp] at bk;have d0:wr.cell? ⟨k,0,none⟩=some (.int .i64 x):=(bk.grew hb).cell 0;have d3: ∀w9,Below w.heap.size w w9→w9.cell? ⟨k,3,none⟩=some (.pointer p):=fun w9 zC=>(bk.grew zC).cell 3;obtain ⟨a',c',rfl,hc1,hc2⟩:=hv.slice';obtain ⟨m,hmm⟩: ∃m,(T++nums dn).length=m:=⟨_,rfl⟩;have hm1:m+1≤1000000:=by
       have h3:=LN.out;rw [hl,List.length_append,kg,List.length_append] at h3;rw [List.length_append] at hmm;have:(nums ((x,k)::rest)).length=rest.length+1:=by simp [nums]
       omega
      have HL:=Lib.hid hl;have V:=Lib.hid hv;have NI:=Lib.hid hin;have B:=Lib.hid hb;have D3:=Lib.hid d3;have HP:=Lib.hid hp;rw [hmm] at V NI hc1⊢;have HMM:=Lib.hid hmm;have hsp:dP ((x,k)::rest) none=some ⟨k,0,none⟩:=rfl;rw [hsp];clear hv hin hb hl d3 hp hmm bk hsp;go_wp2_with (at_builtin;refine bV (E:=Elem.ints) rfl (.tmp 21) (.tmp 26) 86 rfl 3 i0 (.int .i64 0) 8 Tryz.underlying86 hi hz0 hz1 hz2 rfl (.slice a' m c') (.slice (some ⟨wr.heap.size,0,none⟩) 1 1) (T++nums dn) [x] rfl rfl (V.out.alloc _) (Seq.new wr _ [x] 1) ?_ ?_ ?_;(rw [HMM.out];simp only [maxLen,List.length_cons,List.length_nil];omega);(rw [HMM.out];simp only [List.length_cons,List.length_nil];omega);intro v8 w8 hv hu kF;have V8:=Lib.hid hv;have U8:=Lib.hid hu;have N8:=Lib.hid kF;have Nt:=(B.out.alloc B.out.size (.cells #[.int .i64 x] 3)).trans (hu.below (fun k hk=>NI.out k hk) (by have:=B.out.size;rw [World.size_alloc];omega));have B8:=Lib.hid Nt;have x3:w8.cell? ⟨k,3,none⟩=some (.pointer p):=D3.out w8 Nt;clear hv hu kF Nt)
      have NX:Hid (InR w T l rest.length v8 (.pointer p) w8):=Lib.hid ⟨dn++ [(x,k)],rest,_,by rw [HL.out];simp,rfl,by rw [HP.out],rfl,by have:=V8.out;rw [List.append_assoc] at this;rw [kg];exact this,fun k9 hk=>by
       rcases N8.out k9 hk with z|z
       · exact NI.out k9 z
       · rw [World.size_alloc] at z;have:=B.out.size;omega,B8.out⟩
      go_roundg rest.length
      case measure=>exact Nat.lt_succ_self _
      case rel=>exact NX.out
  · obtain rfl:t=n:=by omega
    have t2:decide ((t:Int)<(t:Int))=false:=decide_eq_false (by omega);clear hv hin hb;go_wp2;go_ret;refine ⟨_,rfl, ?_,NI.out,B.out⟩;have:=V.out;rw [HN.out,List.take_length] at this;exact this
end Go.Proofs.YtpibbcnkgdmcbaaGreatDoor
