/- Blocks that are known whole, rows of bytes in them, and what the built-ins do with them. Over whatever program. -/
import Derived.Test.YtpibbcnkgdmcbaaGreatDoorMemMath
import Derived.WalkKit
import Derived.OwnWalk
import Derived.Below
import Derived.OpenShut
import Derived.Laws.CopyOwn
import Derived.Laws.BytesArg
import Derived.Laws.OwnMore
import Derived.Lib.SliceRun
import Derived.Deep.AppendSrc
namespace Go.Proofs.YtpibbcnkgdmcbaaGreatDoor
open Go.RowKit
structure aH (S:Nat→Prop) (w w':World):Prop where
 os:w'.os=w.os
 tape:w'.tape=w.tape
 output:w'.output=w.output
 size:w.heap.size≤w'.heap.size
 block: ∀k,k<w.heap.size→ ¬S k→w'.heap[k]? =w.heap[k]?
theorem aH.refl (S:Nat→Prop) (w:World):aH S w w:=⟨rfl,rfl,rfl,Nat.le_refl _,fun _ _ _=>rfl⟩
theorem aH.trans {S:Nat→Prop} {a b c:World} (h:aH S a b) (k:aH S b c):aH S a c:=
 ⟨k.os.trans h.os,k.tape.trans h.tape,k.output.trans h.output,Nat.le_trans h.size k.size,fun i hi hs=>(k.block i (Nat.lt_of_lt_of_le hi h.size) hs).trans (h.block i hi hs)⟩
theorem aH.mono {S T:Nat→Prop} {w w':World} (h:aH S w w') (hs: ∀k,S k→T k):aH T w w':=
 ⟨h.os,h.tape,h.output,h.size,fun k hk ht=>h.block k hk fun x=>ht (hs k x)⟩
theorem aH.drew {S:Nat→Prop} {a w:World} (h:aH S a w):aH S a w.drew:=⟨h.os,h.tape,h.output,h.size,h.block⟩
theorem aH.alloc {S:Nat→Prop} {a w:World} (h:aH S a w) (o:Obj):aH S a (w.alloc o):=
 h.trans ⟨rfl,rfl,rfl,by simp,fun k hk _=>Below.heap_alloc _ _ _ hk⟩
theorem aH.setCell {S:Nat→Prop} {a w:World} (h:aH S a w) {p:Addr} (hp:S p.block∨a.heap.size≤p.block) (u:Value):aH S a (w.setCell p u):=by
 refine ⟨h.os,h.tape,h.output,by simpa [World.setCell] using h.size,fun k hk hs=> ?_⟩;rw [Below.heap_setCell _ _ _ _ (by rintro rfl;rcases hp with hp|hp;exact hs hp;omega)];exact h.block k hk hs
theorem aH.grown {S:Nat→Prop} {a w w':World} {row:Option Nat} (h:aH S a w) (hg:w.grownBy w' row) (hr: ∀k,row=some k→S k∨a.heap.size≤k):aH S a w':=by
 refine ⟨hg.os.trans h.os,hg.tape.trans h.tape,hg.output.trans h.output,Nat.le_trans h.size hg.size,fun k hk hs=> ?_⟩;rw [hg.block k (Nat.lt_of_lt_of_le hk h.size) (fun e=>by rcases hr k e.symm with x|x;exact hs x;omega)];exact h.block k hk hs
theorem aH.step {S T:Nat→Prop} {a w w':World} (h:aH S a w) (k:aH T w w') (hs: ∀i,T i→S i∨a.heap.size≤i):aH S a w':=by
 refine ⟨k.os.trans h.os,k.tape.trans h.tape,k.output.trans h.output,Nat.le_trans h.size k.size,fun i hi hn=> ?_⟩;rw [k.block i (Nat.lt_of_lt_of_le hi h.size) (fun t=>by rcases hs i t with x|x;exact hn x;omega)];exact h.block i hi hn
theorem aH.below {S:Nat→Prop} {w w':World} {B:Nat} (h:aH S w w') (hS: ∀k,S k→B≤k) (hB:B≤w.heap.size):Below B w w':=
 ⟨h.os,h.tape,h.output,h.size,fun k hk=>h.block k (by omega) fun s=>by have:=hS k s;omega⟩
theorem aH.kR {B:Nat} {w w':World} (h:Below B w w'):aH (fun k=>B≤k) w w':=
 ⟨h.os,h.tape,h.output,h.size,fun k _ hn=>h.block k (by omega)⟩
def aV (w:World) (g:Nat) (t:TypeId) (cs:Array Value):Prop:=w.heap[g]? =some (.cells cs t (0,0))
theorem aV.lt {w:World} {g:Nat} {t:TypeId} {cs:Array Value} (h:aV w g t cs):g<w.heap.size:=(Array.getElem?_eq_some_iff.1 h).1
theorem aV.cell {w:World} {g:Nat} {t:TypeId} {cs:Array Value} (h:aV w g t cs) (i:Nat):w.cell? ⟨g,i,none⟩=cs[i]? :=cell_of_row w g i cs t (0,0) h
theorem aV.frozen {w:World} {g:Nat} {t:TypeId} {cs:Array Value} (h:aV w g t cs) (i:Nat):w.frozen? ⟨g,i,none⟩=false:=by
 unfold aV at h;simp [World.frozen?,h]
theorem aV.new (w:World) (t:TypeId) (cs:Array Value):aV (w.alloc (.cells cs t)) w.heap.size t cs:=heap_alloc_new w _
theorem aV.drew {w:World} {g:Nat} {t:TypeId} {cs:Array Value} (h:aV w g t cs):aV w.drew g t cs:=h
theorem aV.alloc {w:World} {g:Nat} {t:TypeId} {cs:Array Value} (h:aV w g t cs) (o:Obj):aV (w.alloc o) g t cs:=(Below.heap_alloc w o g h.lt).trans h
theorem aV.upd {S:Nat→Prop} {w w':World} {g:Nat} {t:TypeId} {cs:Array Value} (h:aV w g t cs) (u:aH S w w') (hs: ¬S g):aV w' g t cs:=(u.block g h.lt hs).trans h
theorem aV.far {w:World} {g:Nat} {t:TypeId} {cs:Array Value} (h:aV w g t cs) {p:Addr} (hp:g≠p.block) (u:Value):aV (w.setCell p u) g t cs:=(Below.heap_setCell w p u g hp).trans h
theorem aV.put {w:World} {g:Nat} {t:TypeId} {cs:Array Value} (h:aV w g t cs) (i:Nat) (u:Value):aV (w.setCell ⟨g,i,none⟩ u) g t (cs.setIfInBounds i u):=by
 unfold aV at h⊢;simp [World.setCell,Array.getElem?_modify,h]
theorem aV.ne {w:World} {g g':Nat} {t t':TypeId} {cs cs':Array Value} (h:aV w g t cs) (h':aV w g' t' cs') (hne:t≠t'):g≠g':=by
 rintro rfl;unfold aV at h h';rw [h] at h';injection h' with h'
 injection h' with _ ht
 exact hne ht
def n8 (n:Nat):Value:= .int .u8 (n:Int)
def Bytes (w:World) (e:TypeId) (g:Nat) (L:List Nat):Prop:=aV w g e (L.map n8).toArray
theorem oP {l:List Nat} {j:Nat} (hj:j<l.length):l[j]? =some (l.getD j 0):=by
 simp [List.getD_eq_getElem?_getD,hj]
theorem Bytes.lt {w:World} {e:TypeId} {g:Nat} {L:List Nat} (h:Bytes w e g L):g<w.heap.size:=aV.lt h
theorem Bytes.cell {w:World} {e:TypeId} {g:Nat} {L:List Nat} (h:Bytes w e g L) (j:Nat) (hj:j<L.length):w.cell? ⟨g,j,none⟩=some (.int .u8 ((L.getD j 0:Nat):Int)):=by
 rw [aV.cell h,List.getElem?_toArray,List.getElem?_map,oP hj];rfl
theorem Bytes.frozen {w:World} {e:TypeId} {g:Nat} {L:List Nat} (h:Bytes w e g L) (j:Nat):w.frozen? ⟨g,j,none⟩=false:=aV.frozen h j
theorem Bytes.upd {S:Nat→Prop} {w w':World} {e:TypeId} {g:Nat} {L:List Nat} (h:Bytes w e g L) (u:aH S w w') (hs: ¬S g):Bytes w' e g L:=aV.upd h u hs
theorem Bytes.drew {w:World} {e:TypeId} {g:Nat} {L:List Nat} (h:Bytes w e g L):Bytes w.drew e g L:=h
theorem Bytes.alloc {w:World} {e:TypeId} {g:Nat} {L:List Nat} (h:Bytes w e g L) (o:Obj):Bytes (w.alloc o) e g L:=aV.alloc h o
theorem Bytes.put {w:World} {e:TypeId} {g:Nat} {L:List Nat} (h:Bytes w e g L) (p x:Nat) (X:Int) (hX:X=(x:Int)):Bytes (w.setCell ⟨g,p,none⟩ (.int .u8 X)) e g (L.set p x):=by
 subst hX;have:=aV.put h p (.int .u8 (x:Int));unfold Bytes;rw [List.map_set];rw [List.setIfInBounds_toArray] at this;exact this
theorem Bytes.row {w:World} {e:TypeId} {g:Nat} {L:List Nat} (h:Bytes w e g L) (M:List Nat):Bytes (w.setRow g (M.map n8).toArray) e g M:=setRow_heap w g _ _ e _ h
theorem F8 (w:World) (g:Nat) (cs:Array Value):aH (fun k=>k=g) w (w.setRow g cs):=
 ⟨rfl,rfl,rfl,by simp [World.setRow],fun k _ hk=>setRow_other w g k cs hk⟩
def dF (w:World) (v:Value) (l:List Nat):Prop:=
 (∃b off cap,v= .slice (some ⟨b,off,none⟩) l.length cap∧ ∀j,j<l.length→w.cell? ⟨b,off+j,none⟩=some (.int .u8 ((l.getD j 0:Nat):Int)))
  ∨(l= []∧ ∃a cap,v= .slice a 0 cap∧(a=none→cap=0))
theorem dF.len {w:World} {a:Option Addr} {n cap:Nat} {l:List Nat} (h:dF w (.slice a n cap) l):n=l.length:=by
 rcases h with ⟨b,off,c,e,_⟩|⟨rfl,a',c,e,_⟩
 · injection e
 · injection e
theorem dF.nil (w:World):dF w (.slice none 0 0) []:= .inr ⟨rfl,none,0,rfl,fun _=>rfl⟩
theorem dF.drew {w:World} {v:Value} {l:List Nat} (h:dF w v l):dF w.drew v l:=h
theorem dF.below {w w':World} {v:Value} {l:List Nat} (h:dF w v l) {B:Nat} (hB:w.heap.size≤B) (hb:Below B w w'):dF w' v l:=by
 rcases h with ⟨b,off,cap,rfl,hc⟩|h
 · refine .inl ⟨b,off,cap,rfl,fun j hj=> ?_⟩
   have:=hc j hj;have hlt:=World.block_lt_of_cell? w _ this;rw [hb.cell (p:=⟨b,off+j,none⟩) (by simp only at hlt⊢;omega)];exact this
 · exact .inr h
def aah (v:Value) (S:Nat→Prop):Prop:= ∀b o n c,v= .slice (some ⟨b,o,none⟩) n c→0<n→ ¬S b
theorem dF.upd {S:Nat→Prop} {w w':World} {v:Value} {l:List Nat} (h:dF w v l) (u:aH S w w') (hs:aah v S):dF w' v l:=by
 rcases h with ⟨b,off,cap,rfl,hc⟩|h
 · refine .inl ⟨b,off,cap,rfl,fun j hj=> ?_⟩
   have hcell:=hc j hj;have hlt:=World.block_lt_of_cell? w _ hcell;rw [World.cell?_of_block (w:=w) (u.block b (by simpa using hlt) (hs b off _ cap rfl (by omega)))];exact hcell
 · exact .inr h
theorem Bytes.reads {w:World} {e:TypeId} {g:Nat} {L:List Nat} (h:Bytes w e g L) (o n cap:Nat) (hn:o+n≤L.length):dF w (.slice (some ⟨g,o,none⟩) n cap) (ay.part L o n):=by
 have hl:(ay.part L o n).length=n:=ay.dM hn;refine .inl ⟨g,o,cap,by rw [hl],fun j hj=> ?_⟩;rw [hl] at hj;rw [h.cell (o+j) (by omega),ay.jq hj]
theorem Bytes.aay {w:World} {e:TypeId} {g:Nat} {L:List Nat} (h:Bytes w e g L) (o p n cap:Nat) (hn:o+n≤L.length) (hp:0<n→p=o):dF w (.slice (some ⟨g,p,none⟩) n cap) (ay.part L o n):=by
 by_cases h0:n=0
 · subst h0
   exact .inr ⟨by simp [ay.part],some ⟨g,p,none⟩,cap,rfl,fun e=>by cases e⟩
 · obtain rfl:=hp (by omega)
   exact h.reads p n cap hn
theorem dF.take {w:World} {a:Option Addr} {l:List Nat} {n cap:Nat} (h:dF w (.slice a n cap) l) (k cap':Nat) (hk:k≤n) (hc:a=none→cap'=0):dF w (.slice a k cap') (l.take k):=by
 obtain rfl:=h.len;rcases h with ⟨b,off,c,e,hcell⟩|⟨rfl,a',c,e,hac⟩
 · injection e with e1 _ e3
   subst e1 e3;have hl:(l.take k).length=k:=by simp;omega
   refine .inl ⟨b,off,cap',by rw [hl],fun j hj=> ?_⟩;rw [hl] at hj;rw [hcell j (by omega)];simp [List.getD_eq_getElem?_getD,List.getElem?_take_of_lt hj]
 · injection e with e1 _ e3
   subst e1 e3;obtain rfl:k=0:=by simpa using hk
   exact .inr ⟨by simp,a,cap',rfl,hc⟩
theorem dF.cells {w:World} {a:Option Addr} {n cap:Nat} {l:List Nat} (h:dF w (.slice a n cap) l) (hn:0<n): ∃b off,a=some ⟨b,off,none⟩∧ ∀j,j<l.length→w.cell? ⟨b,off+j,none⟩=some (.int .u8 ((l.getD j 0:Nat):Int)):=by
 rcases h with ⟨b,off,c,e,hcell⟩|⟨rfl,a',c,e,hac⟩
 · injection e with e1 _ _
   exact ⟨b,off,e1,hcell⟩
 · injection e with _ e2 _
   omega
theorem WO {xs:List Nat}: ∀u∈xs.map n8,u.oneCell'=true:=by
 intro u hu;obtain ⟨n,_,rfl⟩:=List.mem_map.1 hu;rfl
theorem G6 (L cs:List Nat) (o:Nat):(splice L o cs).map n8=splice (L.map n8) o (cs.map n8):=by
 simp [splice,List.map_take,List.map_drop]
section
variable {P:Program}
theorem nY {w:World} (dT sT ty e:TypeId) (hu:P.underlying dT=some (.slice e)) (hsz:(P.info? e).map (·.size)=some 1)
 (dp:Option Addr) (dLen dCap:Nat) (sp:Option Addr) (sLen sCap:Nat) (l L:List Nat) (g off:Nat) (hL:Bytes w e g L) (hl:dF w (.slice sp sLen sCap) l)
 (hpos:0<min l.length dLen→dp=some ⟨g,off,none⟩) (hfit:off+dLen≤L.length):
 ∃w',(Builtin.copy_ #[dT,sT] ty #[.slice dp dLen dCap, .slice sp sLen sCap]).run P w= .ok (goInt (min l.length dLen:Nat)) w'∧Bytes w' e g (splice L off (l.take (min l.length dLen)))∧aH (fun k=>k=g) w w':=by
 obtain rfl:=hl.len;by_cases h0:min l.length dLen=0
 · refine ⟨w, ?_, ?_,aH.refl _ _⟩
   · rw [h0]
     exact run_copy_none (P:=P) w dT sT ty e dp sp dLen dCap l.length sCap hu hsz h0
   · rw [h0,List.take_zero,ay.mP];exact hL
 · obtain rfl:=hpos (by omega)
   obtain ⟨b,o,rfl,hcell⟩:=hl.cells (by omega);have hlen:((l.take (min l.length dLen)).map n8).length=min l.length dLen:=by simp
   have hrun:=run_copy_row (P:=P) w dT sT ty e g off dLen dCap ⟨b,o,none⟩ l.length sCap _ e ((l.take (min l.length dLen)).map n8) hu hsz hL (by rw [hlen])
    (fun j v hj=>by
     have hjl:j<min l.length dLen:=by
      rcases Nat.lt_or_ge j (min l.length dLen) with h|h
      · exact h
      · rw [List.getElem?_eq_none (by omega)] at hj;cases hj
     rw [Go.WideShapes.add_plain,hcell j (by omega)];rw [List.getElem?_map,List.getElem?_take_of_lt hjl,oP (by omega)] at hj;injection hj with hj
     rw [←hj];rfl)
    (by rw [hlen];simp;omega) WO
   rw [hlen] at hrun;refine ⟨_,hrun, ?_,F8 _ _ _⟩;have:=hL.row (splice L off (l.take (min l.length dLen)));rw [G6] at this
   simpa [splice] using this
theorem ru {w:World} {ops:Array Oper} {rest:List Oper} {o:Oper} {a:Act} {Q:Exit→Act→World→Prop} (hgd:o.guard=none) (d s:Operand) (dT sT:TypeId)
 (ho:o.op= .call {callee:= .builtin .copy,args:= #[d,s],argTypes:= #[dT,sT]}) (e:TypeId) (hu:P.underlying dT=some (.slice e)) (hsz:(P.info? e).map (·.size)=some 1)
 (dp:Option Addr) (dLen dCap:Nat) (sp:Option Addr) (sLen sCap:Nat) (hd:a.eval d= .slice dp dLen dCap) (hs:a.eval s= .slice sp sLen sCap)
 (l L:List Nat) (g off:Nat) (hL:Bytes w e g L) (hl:dF w (.slice sp sLen sCap) l)
 (k:Nat) (hk:k=min l.length dLen) (hpos:0<k→dp=some ⟨g,off,none⟩) (hfit:off+dLen≤L.length)
 (h: ∀w',Bytes w' e g (splice L off (l.take k))→aH (fun k=>k=g) w w'→wpList P ops Q rest (a.put o.dst (goInt (k:Nat))) w'):
 wpList P ops Q (o::rest) a w:=
 wpList_plain hgd fun K hK=>by
  subst hk;obtain ⟨w',hr,h1,h2⟩:=nY (P:=P) dT sT o.type e hu hsz dp dLen dCap sp sLen sCap l L g off hL hl hpos hfit;unfold Oper.wp execOp;simp only [ho,resolve,invoke,builtin,Sem.run_bind,Sem.run_pure,Result.andThen_ok,List.map_toArray,List.map_cons,List.map_nil,hd,hs,hr];exact hK _ _ (h w' h1 h2)
theorem vS {w:World} {ops:Array Oper} {o:Oper} {a:Act} {K:Act→World→Prop} {Q:Exit→Act→World→Prop} {E:Prop} (hgd:o.guard=none) (d s:Operand) (dT sT:TypeId)
 (ho:o.op= .call {callee:= .builtin .copy,args:= #[d,s],argTypes:= #[dT,sT]}) (e:TypeId) (hu:P.underlying dT=some (.slice e)) (hsz:(P.info? e).map (·.size)=some 1)
 (dp:Option Addr) (dLen dCap:Nat) (sp:Option Addr) (sLen sCap:Nat) (hd:a.eval d= .slice dp dLen dCap) (hs:a.eval s= .slice sp sLen sCap)
 (l L:List Nat) (g off:Nat) (hL:Bytes w e g L) (hl:dF w (.slice sp sLen sCap) l)
 (k:Nat) (hk:k=min l.length dLen) (hpos:0<k→dp=some ⟨g,off,none⟩) (hfit:off+dLen≤L.length)
 (h: ∀w',Bytes w' e g (splice L off (l.take k))→aH (fun k=>k=g) w w'→K (a.put o.dst (goInt (k:Nat))) w'):
 if Region.wanted o (yielded ops a.tmps)=true then Oper.wp P o a w K Q else E:=by
 have hw:Region.wanted o (yielded ops a.tmps)=true:=by simp [Region.wanted,hgd]
 rw [if_pos hw];subst hk;obtain ⟨w',hr,h1,h2⟩:=nY (P:=P) dT sT o.type e hu hsz dp dLen dCap sp sLen sCap l L g off hL hl hpos hfit;unfold Oper.wp execOp;simp only [ho,resolve,invoke,builtin,Sem.run_bind,Sem.run_pure,Result.andThen_ok,List.map_toArray,List.map_cons,List.map_nil,hd,hs,hr];exact h w' h1 h2
theorem iR (g:Nat): ∀(vs:List Value) (o:Nat) (w:World),aH (fun k=>k=g) w (w.setCells g o vs)
 | [],o,w=>aH.refl _ _
 |v::r,o,w=>by
  rw [World.setCells];exact ((aH.refl (fun k=>k=g) w).setCell (p:=⟨g,o,none⟩) (.inl rfl) v).trans (iR g r (o+1) _)
theorem oZ {e:TypeId} (g:Nat): ∀(vs L:List Nat) (o:Nat) (w:World),Bytes w e g L→o+vs.length≤L.length→Bytes (w.setCells g o (vs.map n8)) e g (splice L o vs)
 | [],L,o,w,h,_=>by rw [ay.mP];exact h
 |v::r,L,o,w,h,hl=>by
  simp only [List.length_cons] at hl;have h1:=oZ g r (L.set o v) (o+1) _ (h.put o v (v:Int) rfl) (by simp;omega);rw [List.map_cons,World.setCells];have e1:splice (L.set o v) (o+1) r=splice L o (v::r):=by
   have:=ay.qh (L:=L) (a:= [v]) (b:=r) (o:=o) (by simp;omega);rw [List.length_singleton] at this;rw [show v::r= [v]++r from rfl,←this]
   congr 1
   unfold splice;rw [List.set_eq_take_append_cons_drop,if_pos (by omega)];simp
  rw [e1] at h1;exact h1
theorem vV {w:World} (t ty e:TypeId) (ht:P.underlying t=some (.slice e)) (hv: ∀w,(zeroValue e).run P w= .ok (.int .u8 0) w)
 (p:Option Addr) (n c:Nat) (L:List Nat) (g off:Nat) (hL:Bytes w e g L) (hpos:0<n→p=some ⟨g,off,none⟩) (hfit:off+n≤L.length):
 ∃w',(Builtin.clear_ #[t] ty #[.slice p n c]).run P w= .ok (.tuple #[]) w'∧Bytes w' e g (splice L off (List.replicate n 0))∧aH (fun k=>k=g) w w':=by
 by_cases h0:n=0
 · subst h0
   refine ⟨w, ?_, ?_,aH.refl _ _⟩
   · cases p<;>simp [Builtin.clear_,run_underlying ht]
   · rw [List.replicate_zero,ay.mP];exact hL
 · obtain rfl:=hpos (by omega)
   have hrun:=Lib.run_clear_slice (P:=P) w t e ty (.int .u8 0) ht hv rfl rfl g off n c (by omega) (fun j hj=>by rw [hL.cell _ (by omega)];rfl) (fun j hj=>hL.frozen _);have e1:List.replicate n (Value.int .u8 0)=(List.replicate n 0).map n8:=by rw [List.map_replicate];rfl
   rw [e1] at hrun;exact ⟨_,hrun,oZ g _ L off w hL (by simpa using hfit),iR g _ off w⟩
theorem qA {w:World} {ops:Array Oper} {rest:List Oper} {o:Oper} {a:Act} {Q:Exit→Act→World→Prop} (hgd:o.guard=none) (d:Operand) (t:TypeId)
 (ho:o.op= .call {callee:= .builtin .clear,args:= #[d],argTypes:= #[t]}) (e:TypeId) (ht:P.underlying t=some (.slice e)) (hv: ∀w,(zeroValue e).run P w= .ok (.int .u8 0) w)
 (p:Option Addr) (n c:Nat) (hd:a.eval d= .slice p n c) (L:List Nat) (g off:Nat) (hL:Bytes w e g L) (hpos:0<n→p=some ⟨g,off,none⟩) (hfit:off+n≤L.length)
 (h: ∀w',Bytes w' e g (splice L off (List.replicate n 0))→aH (fun k=>k=g) w w'→wpList P ops Q rest (a.put o.dst (.tuple #[])) w'):
 wpList P ops Q (o::rest) a w:=
 wpList_plain hgd fun K hK=>by
  obtain ⟨w',hr,h1,h2⟩:=vV (P:=P) t o.type e ht hv p n c L g off hL hpos hfit;unfold Oper.wp execOp;simp only [ho,resolve,invoke,builtin,Sem.run_bind,Sem.run_pure,Result.andThen_ok,List.map_toArray,List.map_cons,List.map_nil,hd,hr];exact hK _ _ (h w' h1 h2)
theorem G8 (n:Nat):madeCells (Value.cells (.int .u8 0)) n=((ay.rep n 0).map n8).toArray:=by
 unfold ay.rep;apply Array.ext
 · simp [madeCells]
 · intro i h1 h2
   simp [madeCells,Value.cells,n8,Nat.mod_one]
theorem q8 {w:World} {ops:Array Oper} {rest:List Oper} {o:Oper} {a:Act} {Q:Exit→Act→World→Prop}
 (hgd:o.guard=none) (l c:Operand) (t:TypeId) (ho:o.op= .makeSlice t l c)
 (e:TypeId) (i:TypeInfo) (ht:P.underlying t=some (.slice e)) (hi:P.info? e=some i) (hz:i.zero=some (.int .u8 0)) (hsize:i.size=1) (hby:i.bytes=1)
 (k k':IntKind) (C:Int) (n:Nat) (hl:a.eval l= .int k C) (hc:a.eval c= .int k' C) (hC:C=(n:Int)) (hn:n≤1000000000000)
 (hK: ∀w',Bytes w' e w.heap.size (ay.rep n 0)→aH (fun _=>False) w w'→w'.heap.size=w.heap.size+1→wpList P ops Q rest (a.put o.dst (.slice (some ⟨w.heap.size,0,none⟩) n n)) w'):
 wpList P ops Q (o::rest) a w:=by
 refine wpList_plain hgd fun K hK'=> ?_;subst hC;have hrun:=run_make (P:=P) w t e i (.int .u8 0) ht hi hz k k' (n:Int) (n:Int) (by omega) (by omega) (by rw [hby];omega) (by omega);simp only [Int.toNat_natCast,hsize,Nat.mul_one,G8] at hrun;unfold Oper.wp;simp only [execOp,ho,hl,hc,Sem.run_bind,hrun,Result.andThen_ok,Sem.run_pure];exact hK' _ _ (hK _ (heap_alloc_new w _) ((aH.refl _ _).alloc _) (by simp))
theorem La (w:World) (t ty e:TypeId) (i:TypeInfo) (ht:P.underlying t=some (.slice e)) (hi:P.info? e=some i) (hz:i.zero=some (.int .u8 0)) (hsize:i.size=1) (hby:i.bytes=1)
 (g:Nat) (hg:Bytes w e g []) (s:Value) (ls:List Nat) (hs:dF w s ls) (hlen:ls.length≤1000000000000):
 ∃b z w',(Builtin.append_ #[t,t] ty #[.slice (some ⟨g,0,none⟩) 0 0,s]).run P w= .ok (.slice (some ⟨b,0,none⟩) ls.length (ls.length+z)) w'∧Bytes w' e b (ls++List.replicate z 0)∧(b=g∨w.heap.size≤b)∧aH (fun _=>False) w w':=by
 by_cases h0:ls= []
 · subst h0
   refine ⟨g,0,w, ?_,hg, .inl rfl,aH.refl _ _⟩;rcases hs with ⟨b,off,c,rfl,_⟩|⟨_,a,c,rfl,_⟩
   · simp [Builtin.append_,run_underlying ht,sizeOf,typeInfo,hi,Builtin.lenOf,Builtin.firstCells,storeCells,loadCells,loadCellsFrom]
   · cases a<;>simp [Builtin.append_,run_underlying ht,sizeOf,typeInfo,hi,Builtin.lenOf,Builtin.firstCells,storeCells,loadCells,loadCellsFrom]
 · have hpos:0<ls.length:=List.length_pos_iff.2 h0
   rcases hs with ⟨b,off,c,rfl,hc⟩|⟨h,_⟩
   · have hnews: ∀j u,(ls.map n8)[j]? =some u→w.cell? ((⟨b,off,none⟩:Addr).add j)=some u:=by
      intro j u hu;rw [List.getElem?_map] at hu;obtain ⟨x,hx,rfl⟩:=Option.map_eq_some_iff.1 hu;have hj:j<ls.length:=(List.getElem?_eq_some_iff.1 hx).1;rw [Go.WideShapes.add_plain,hc j hj,List.getD_eq_getElem?_getD,hx];rfl
     have hr:=run_append_grow (P:=P) w t ty e i (.int .u8 0) ht hi hz ⟨g,0,none⟩ 0 0 [] (by simp) (fun j v h=>by simp at h) ⟨b,off,none⟩ ls.length c (ls.map n8) (by simp [hsize]) hnews (by omega) (by omega) (growslice_fits (by omega) (by rw [hby];omega));have hge:=grownCap_ge w (0+ls.length) 0 e;obtain ⟨z,hzz⟩: ∃z,grownCap w (0+ls.length) 0 e=ls.length+z:=⟨grownCap w (0+ls.length) 0 e-ls.length,by omega⟩;rw [hzz,Nat.zero_add] at hr;refine ⟨w.heap.size,z,_,hr, ?_, .inr (Nat.le_refl _),((aH.refl _ _).drew).alloc _⟩;have e1:([].toArray++(ls.map n8).toArray++Builtin.zeroCells (Value.cells (.int .u8 0)) (ls.length+z-ls.length):Array Value)=((ls++List.replicate z 0).map n8).toArray:=by
      have e2:Builtin.zeroCells (Value.cells (.int .u8 0)) (ls.length+z-ls.length)=((List.replicate z 0).map n8).toArray:=by
       rw [show ls.length+z-ls.length=z by omega];apply Array.ext
       · simp [Builtin.zeroCells,Value.cells]
       · intro i h1 h2
         simp [Builtin.zeroCells,Value.cells,n8,Nat.mod_one]
      rw [e2];simp
     unfold Bytes aV;rw [←e1];exact heap_alloc_new w.drew _
   · exact absurd h h0
theorem Jf (a:Option Addr):a.map (fun x=>x.add (0*1))=a:=by
 cases a with
 |none=>rfl
 |some x=>simp [Addr.add]
theorem nX (t:TypeId) (ht:P.underlying t=some (.slice (P.elem t))) (hsz: ∀w,(sizeOf (P.elem t)).run P w= .ok 1 w) (k k':IntKind) (g off n cap lo hi:Nat) (h1:lo≤hi) (h2:hi≤cap):
 ∃p,(lo<hi→p=off+lo)∧ ∀w,(Instr.slice t (.slice (some ⟨g,off,none⟩) n cap) (some (.int k (lo:Int))) (some (.int k' (hi:Int))) none).run P w= .ok (.slice (some ⟨g,p,none⟩) (hi-lo) (cap-lo)) w:=by
 refine ⟨if cap=lo then off else off+lo,fun h=>by rw [if_neg (by omega)],fun w=> ?_⟩;rw [run_slice_lh (P:=P) (w:=w) t _ n cap ht k k' (lo:Int) (hi:Int) (by omega) (by omega) (by omega),hsz];simp only [Result.andThen_ok,Int.toNat_natCast,sliced,Nat.mul_one,Option.map_some,Go.WideShapes.add_plain];by_cases h:cap=lo
 · rw [if_pos h,if_pos h]
 · rw [if_neg h,if_neg h]
theorem vU (t:TypeId) (ht:P.underlying t=some (.slice (P.elem t))) (hsz: ∀w,(sizeOf (P.elem t)).run P w= .ok 1 w) (k:IntKind) (g off n cap lo:Nat) (h1:lo≤n) (h2:n≤cap):
 ∃p,(lo<n→p=off+lo)∧ ∀w,(Instr.slice t (.slice (some ⟨g,off,none⟩) n cap) (some (.int k (lo:Int))) none none).run P w= .ok (.slice (some ⟨g,p,none⟩) (n-lo) (cap-lo)) w:=by
 refine ⟨if cap=lo then off else off+lo,fun h=>by rw [if_neg (by omega)],fun w=> ?_⟩;rw [run_slice_l (P:=P) (w:=w) t _ n cap ht k (lo:Int) (by omega) (by omega),hsz];simp only [Result.andThen_ok,Int.toNat_natCast,sliced,Nat.mul_one,Option.map_some,Go.WideShapes.add_plain];by_cases h:cap=lo
 · rw [if_pos h,if_pos h]
 · rw [if_neg h,if_neg h]
theorem ug (t:TypeId) (ht:P.underlying t=some (.slice (P.elem t))) (hsz: ∀w,(sizeOf (P.elem t)).run P w= .ok 1 w) (k:IntKind) (a:Option Addr) (n cap hi:Nat) (h2:hi≤cap) (w:World):
 (Instr.slice t (.slice a n cap) none (some (.int k (hi:Int))) none).run P w= .ok (.slice a hi cap) w:=by
 rw [run_slice_h (P:=P) (w:=w) t a n cap ht k (hi:Int) (by omega) (by omega),hsz];simp only [Result.andThen_ok,sliced,Int.toNat_natCast,Nat.sub_zero,Jf,ite_self]
def Y8 (n:Nat):Int:=(n:Int)
end
end Go.Proofs.YtpibbcnkgdmcbaaGreatDoor
