/- Slices of elements of whatever size: what reads as a list, what may be appended to, append, cuts. Over whatever program. -/
import Derived.Test.YtpibbcnkgdmcbaaGreatDoorBlk
import Derived.ArgAppend
import Derived.Deep.AppendSrc
import Derived.Deep.MidRow
import Derived.Deep.QuietTactic
import Derived.BigQuiet
set_option linter.unusedVariables false
namespace Go.Proofs.YtpibbcnkgdmcbaaGreatDoor
open Go.RowKit
structure Elem (α:Type) where
 size:Nat
 put:α→List Value
 len: ∀x,(put x).length=size
 one: ∀x,∀u∈put x,u.oneCell'=true
 pos:0<size
namespace Elem
def bools:Elem Bool:=⟨1,fun b=> [.bool b],fun _=>rfl,by intro x u h;rw [List.mem_singleton.1 h];rfl,by decide⟩
def ints:Elem Int:=⟨1,fun n=> [.int .i64 n],fun _=>rfl,by intro x u h;rw [List.mem_singleton.1 h];rfl,by decide⟩
def pairs:Elem (Nat×Nat):=⟨2,fun x=> [.int .i64 (x.1:Int), .int .i64 (x.2:Int)],fun _=>rfl,by
 intro x u h;rcases List.mem_cons.1 h with rfl|h
 · rfl
 · rw [List.mem_singleton.1 h];rfl,by decide⟩
variable {α:Type} (E:Elem α)
def all (l:List α):List Value:=l.flatMap E.put
theorem all_append (l m:List α):E.all (l++m)=E.all l++E.all m:=by simp [all]
theorem all_cons (x:α) (l:List α):E.all (x::l)=E.put x++E.all l:=by simp [all]
theorem eD (l:List α):(E.all l).length=l.length*E.size:=by
 induction l with
 |nil=>simp [all]
 |cons x t ih=>rw [all_cons,List.length_append,ih,E.len,List.length_cons,Nat.add_mul];omega
theorem Fx (l:List α): ∀u∈E.all l,u.oneCell'=true:=by
 intro u hu;obtain ⟨x,_,hx⟩:=List.mem_flatMap.1 hu;exact E.one x u hx
theorem Rk {l:List α} {i:Nat} {x:α} (h:l[i]? =some x) (j:Nat) (hj:j<E.size):(E.all l)[i*E.size+j]? =(E.put x)[j]? :=by
 induction l generalizing i with
 |nil=>simp at h
 |cons y t ih=>
  rw [all_cons];cases i with
  |zero=>
   simp at h;subst h;rw [Nat.zero_mul,Nat.zero_add,List.getElem?_append_left (by rw [E.len];exact hj)]
  |succ i=>
   rw [List.getElem?_append_right (by rw [E.len,Nat.add_mul];omega),E.len,show (i+1)*E.size+j-E.size=i*E.size+j by rw [Nat.add_mul];omega];exact ih (by simpa using h)
theorem Rj (l:List α) (k:Nat):E.all (l.take k)=(E.all l).take (k*E.size):=by
 induction l generalizing k with
 |nil=>simp [all]
 |cons x t ih=>
  cases k with
  |zero=>simp [all]
  |succ k=>
   have e:(k+1)*E.size=(E.put x).length+k*E.size:=by rw [E.len,Nat.add_mul];omega
   rw [List.take_succ_cons,all_cons,all_cons,ih,e,List.take_length_add_append]
theorem Fz (l:List α) (k:Nat):E.all (l.drop k)=(E.all l).drop (k*E.size):=by
 induction l generalizing k with
 |nil=>simp [all]
 |cons x t ih=>
  cases k with
  |zero=>simp
  |succ k=>
   have e:(k+1)*E.size=(E.put x).length+k*E.size:=by rw [E.len,Nat.add_mul];omega
   rw [List.drop_succ_cons,all_cons,ih,e,List.drop_length_add_append]
end Elem
section
variable {α:Type} {E:Elem α}
def Seq (E:Elem α) (w:World) (v:Value) (l:List α):Prop:=
 (∃b off cap,v= .slice (some ⟨b,off,none⟩) l.length cap∧ ∀j u,(E.all l)[j]? =some u→w.cell? ⟨b,off+j,none⟩=some u)∨(l= []∧ ∃a cap,v= .slice a 0 cap∧(a=none→cap=0))
def Vec (E:Elem α) (w:World) (v:Value) (l:List α):Prop:=
 (v= .slice none 0 0∧l= [])∨ ∃g off cap,v= .slice (some ⟨g,off,none⟩) l.length cap∧g<w.heap.size∧l.length≤cap∧cap≤maxLen∧(∀j u,(E.all l)[j]? =some u→w.cell? ⟨g,off+j,none⟩=some u)∧
  ∀j,j<cap*E.size→(w.cell? ⟨g,off+j,none⟩).isSome=true∧w.frozen? ⟨g,off+j,none⟩=false
def In (v:Value) (k:Nat):Prop:=v.ownBlock=some k
theorem Seq.len {w:World} {a:Option Addr} {n cap:Nat} {l:List α} (h:Seq E w (.slice a n cap) l):n=l.length:=by
 rcases h with ⟨b,off,c,e,_⟩|⟨rfl,a',c,e,_⟩
 · injection e
 · injection e
theorem Seq.nil (w:World):Seq E w (.slice none 0 0) []:= .inr ⟨rfl,none,0,rfl,fun _=>rfl⟩
theorem Seq.upd {S:Nat→Prop} {w w':World} {v:Value} {l:List α} (h:Seq E w v l) (u:aH S w w') (hs: ∀k,In v k→ ¬S k):Seq E w' v l:=by
 rcases h with ⟨b,off,cap,rfl,hc⟩|h
 · refine .inl ⟨b,off,cap,rfl,fun j x hj=> ?_⟩
   have:=hc j x hj;have hlt:=World.block_lt_of_cell? w _ this;rw [World.cell?_of_block (w:=w) (u.block b (by simpa using hlt) (hs b rfl))];exact this
 · exact .inr h
theorem Seq.below {w w':World} {v:Value} {l:List α} (h:Seq E w v l) {B:Nat} (hB:w.heap.size≤B) (hb:Below B w w'):Seq E w' v l:=by
 rcases h with ⟨b,off,cap,rfl,hc⟩|h
 · refine .inl ⟨b,off,cap,rfl,fun j x hj=> ?_⟩
   have:=hc j x hj;have hlt:=World.block_lt_of_cell? w _ this;rw [hb.cell (p:=⟨b,off+j,none⟩) (by simp only at hlt⊢;omega)];exact this
 · exact .inr h
theorem Seq.drew {w:World} {v:Value} {l:List α} (h:Seq E w v l):Seq E w.drew v l:=h
theorem Seq.drewN {w:World} {v:Value} {l:List α} (h:Seq E w v l) (n:Nat):Seq E (w.drewN n) v l:=h
theorem Seq.alloc {w:World} {v:Value} {l:List α} (h:Seq E w v l) (o:Obj):Seq E (w.alloc o) v l:=h.below (Nat.le_refl _) ((Below.refl _ w).alloc (Nat.le_refl _) o)
theorem Seq.elem {w:World} {a:Option Addr} {n cap:Nat} {l:List α} (h:Seq E w (.slice a n cap) l) {i:Nat} {x:α} (hx:l[i]? =some x):
 ∃b off,a=some ⟨b,off,none⟩∧ ∀j u,(E.put x)[j]? =some u→w.cell? ⟨b,off+i*E.size+j,none⟩=some u:=by
 rcases h with ⟨b,off,c,e,hc⟩|⟨rfl,a',c,e,_⟩
 · injection e with e1 _ _
   refine ⟨b,off,e1,fun j u hj=> ?_⟩;have hjl:j<E.size:=by have:=(List.getElem?_eq_some_iff.1 hj).1;rwa [E.len] at this
   rw [Nat.add_assoc];exact hc _ u ((E.Rk hx j hjl).trans hj)
 · simp at hx
theorem Seq.new (w:World) (t:TypeId) (l:List α) (cap:Nat):Seq E (w.alloc (.cells (E.all l).toArray t)) (.slice (some ⟨w.heap.size,0,none⟩) l.length cap) l:=
 .inl ⟨w.heap.size,0,cap,rfl,fun j u hj=>by rw [aV.cell (aV.new w _ _),Nat.zero_add,List.getElem?_toArray];exact hj⟩
theorem Seq.at {w:World} {b off n cap:Nat} {l:List α} (hn:n=l.length) (hc: ∀j u,(E.all l)[j]? =some u→w.cell? ⟨b,off+j,none⟩=some u):Seq E w (.slice (some ⟨b,off,none⟩) n cap) l:=by
 subst hn;exact .inl ⟨b,off,cap,rfl,hc⟩
theorem Vec.nil (w:World):Vec E w (.slice none 0 0) []:= .inl ⟨rfl,rfl⟩
theorem Vec.seq {w:World} {v:Value} {l:List α} (h:Vec E w v l):Seq E w v l:=by
 rcases h with ⟨rfl,rfl⟩|⟨g,off,cap,rfl,_,_,_,hc,_⟩
 · exact Seq.nil w
 · exact .inl ⟨g,off,cap,rfl,hc⟩
theorem Vec.upd {S:Nat→Prop} {w w':World} {v:Value} {l:List α} (h:Vec E w v l) (u:aH S w w') (hs: ∀k,In v k→ ¬S k):Vec E w' v l:=by
 rcases h with h|⟨g,off,cap,rfl,hg,hn,hm,hc,hsp⟩
 · exact .inl h
 · have hb:=u.block g hg (hs g rfl)
   refine .inr ⟨g,off,cap,rfl,Nat.lt_of_lt_of_le hg u.size,hn,hm,fun j x hj=> ?_,fun j hj=> ?_⟩
   · rw [World.cell?_of_block (w:=w) (a:=⟨g,off+j,none⟩) hb];exact hc j x hj
   · rw [World.cell?_of_block (w:=w) (a:=⟨g,off+j,none⟩) hb,World.frozen?_of_block (w:=w) (a:=⟨g,off+j,none⟩) hb];exact hsp j hj
theorem Vec.lt {w:World} {v:Value} {l:List α} (h:Vec E w v l) {k:Nat} (hk:In v k):k<w.heap.size:=by
 rcases h with ⟨rfl,_⟩|⟨g,off,cap,rfl,hg,_⟩
 · cases hk
 · injection hk with e;subst e;exact hg
theorem Vec.drew {w:World} {v:Value} {l:List α} (h:Vec E w v l):Vec E w.drew v l:=h
theorem Vec.alloc {w:World} {v:Value} {l:List α} (h:Vec E w v l) (o:Obj):Vec E (w.alloc o) v l:=by
 refine h.upd ((aH.refl (fun _=>False) w).alloc o) (fun _ _=>id)
theorem Vec.row {w:World} {g:Nat} {t:TypeId} {cur:Array Value} (hb:aV w g t cur) (l:List α) (cap:Nat) (hl:l.length≤cap) (hm:cap≤maxLen) (hs:cap*E.size≤cur.size) (hp:cur.toList.take (l.length*E.size)=E.all l):Vec E w (.slice (some ⟨g,0,none⟩) l.length cap) l:=by
 refine .inr ⟨g,0,cap,rfl,hb.lt,hl,hm,fun j u hj=> ?_,fun j hj=> ?_⟩
 · have hj2:j<l.length*E.size:=by have:=(List.getElem?_eq_some_iff.1 hj).1;rwa [E.eD] at this
   rw [aV.cell hb,Nat.zero_add,←Array.getElem?_toList,←List.getElem?_take_of_lt hj2,hp];exact hj
 · rw [aV.cell hb,Nat.zero_add]
   exact ⟨by rw [Array.getElem?_eq_getElem (by omega)];rfl,aV.frozen hb _⟩
theorem Vec.new (w:World) (t:TypeId):Vec E (w.alloc (.cells #[] t)) (.slice (some ⟨w.heap.size,0,none⟩) 0 0) []:=
 Vec.row (aV.new w t #[]) [] 0 (Nat.le_refl _) (by simp [maxLen]) (by simp) (by simp [Elem.all])
theorem Vec.elem {w:World} {a:Option Addr} {n cap:Nat} {l:List α} (h:Vec E w (.slice a n cap) l):n=l.length:=h.seq.len
variable {P:Program}
theorem Seq.src {w:World} {t e:TypeId} (ht:P.underlying t=some (.slice e)) {s:Value} {m:List α} (h:Seq E w s m):Src P E.size t s m.length (E.all m) w:=by
 rcases h with ⟨b,off,cap,rfl,hc⟩|⟨rfl,a,cap,rfl,hac⟩
 · exact Src.ofSlice w ht _ _ _ _ (E.eD m) (fun j u hj=>by rw [Go.WideShapes.add_plain];exact hc j u hj) (E.Fx m)
 · cases a with
   |none=>exact Src.ofNil w ht cap
   |some x=>exact Src.ofSlice w ht x 0 cap (E.all []) (by simp [Elem.all]) (fun j u hj=>by simp [Elem.all] at hj) (by simp [Elem.all])
theorem nZ (w:World) (t ty e:TypeId) (i:TypeInfo) (z:Value) (bytes:Nat) (ht:P.underlying t=some (.slice e)) (hi:P.info? e=some i) (hz:i.zero=some z) (hsize:i.size=E.size) (hby:i.bytes=bytes) (hzs:z.cells.size=E.size)
 (v s:Value) (l m:List α) (hv:Vec E w v l) (hs:Seq E w s m) (h63:l.length+m.length≤maxLen) (hbytes:(l.length+m.length)*bytes≤140737488355328):
 ∃v' w',(Builtin.append_ #[t,t] ty #[v,s]).run P w= .ok v' w'∧Vec E w' v' (l++m)∧aH (In v) w w'∧(∀k,In v' k→In v k∨w.heap.size≤k):=by
 subst hby;have hsrc:=Seq.src (P:=P) ht hs;rw [←hsize] at hsrc;have h63':((l.length+m.length:Nat):Int)≤9223372036854775807:=by simp only [maxLen] at h63;omega
 have hlen:=E.eD (l++m);rw [List.length_append] at hlen;have grown: ∀(cap:Nat),cap<l.length+m.length→
  Vec E (w.drew.alloc (.cells ((E.all l++E.all m).toArray++Builtin.zeroCells z.cells (grownCap w (l.length+m.length) cap e-(l.length+m.length))) e)) (.slice (some ⟨w.heap.size,0,none⟩) (l.length+m.length) (grownCap w (l.length+m.length) cap e)) (l++m):=by
  intro cap hc;have hge:=grownCap_ge w (l.length+m.length) cap e;have hcm:=grownCap_le_maxLen w (l.length+m.length) cap e h63;rw [←List.length_append] at hge hcm⊢;refine Vec.row (heap_alloc_new w.drew _) _ _ hge hcm ?_ ?_
  · simp only [Array.size_append,List.size_toArray,size_zeroCells,hzs,←E.all_append,E.eD,←Nat.add_mul]
    exact Nat.mul_le_mul_right _ (by omega)
  · simp only [Array.toList_append]
    rw [←E.all_append,←E.eD];exact List.take_left
 rcases hv with ⟨rfl,rfl⟩|⟨g,off,cap,rfl,hg,hn,hcm,hc,hsp⟩
 · by_cases hm:m.length=0
   · obtain rfl:=List.length_eq_zero_iff.1 hm
     refine ⟨.slice none 0 0,w, ?_, .inl ⟨rfl,rfl⟩,aH.refl _ _,fun k h=> .inl h⟩;rcases hs with ⟨b,off,cap,rfl,hc⟩|⟨_,a,cap,rfl,hac⟩
     · simp [Builtin.append_,run_underlying ht,sizeOf,typeInfo,hi,Builtin.lenOf,Builtin.firstCells,loadCells,loadCellsFrom]
     · cases a with
       |none=>simp [Builtin.append_,run_underlying ht,sizeOf,typeInfo,hi,Builtin.lenOf,Builtin.firstCells]
       |some x=>simp [Builtin.append_,run_underlying ht,sizeOf,typeInfo,hi,Builtin.lenOf,Builtin.firstCells,loadCells,loadCellsFrom]
   · have hr:=run_append_grow_src (P:=P) w t t ty e i z ht hi hz none 0 0 [] (run_firstCells_none w.drew i.size 0 0 0) s m.length (E.all m) hsrc (by omega) (by simpa using h63') (growslice_fits (by omega) (by simpa using hbytes))
     have hgr:=grown 0 (by simp;omega);simp only [List.length_nil,Nat.zero_add,Elem.all,List.flatMap_nil,List.nil_append] at hgr hr⊢;exact ⟨_,_,hr,hgr,(aH.refl _ _).drew.alloc _,fun k h=> .inr (by injection h with h;subst h;exact Nat.le_refl _)⟩
 · by_cases hroom:l.length+m.length≤cap
   · have hfit: ∀j,j<(E.all m).length→l.length*E.size+j<cap*E.size:=by
      intro j hj;rw [E.eD] at hj;have:=Nat.mul_le_mul_right E.size hroom;rw [Nat.add_mul] at this;omega
     have hr:=run_append_room_src (P:=P) w t t ty e i ht hi g off l.length cap s m.length (E.all m) hsrc hroom (fun j hj=>by rw [hsize,Nat.add_assoc];exact (hsp _ (hfit j hj)).1) (fun j hj=>by rw [hsize,Nat.add_assoc];exact (hsp _ (hfit j hj)).2);rw [hsize] at hr;refine ⟨_,_,hr, .inr ⟨g,off,cap,by rw [List.length_append], ?_,by rw [List.length_append];exact hroom,hcm,fun j u hj=> ?_,fun j hj=> ?_⟩,(iR g _ _ w).mono (fun k hk=>by subst hk;rfl),fun k h=> .inl h⟩
     · exact Nat.lt_of_lt_of_le hg (iR g _ _ w).size
     · rw [E.all_append] at hj
       by_cases h1:j<(E.all l).length
       · rw [List.getElem?_append_left h1] at hj
         rw [World.cell?_setCells_out g _ _ w _ (fun _ _=> .inl (by rw [E.eD] at h1;simp only;omega))];exact hc j u hj
       · rw [List.getElem?_append_right (by omega)] at hj
         obtain ⟨hjl,hju⟩:=List.getElem?_eq_some_iff.1 hj;have:=World.cell?_setCells_in g (E.all m) (off+l.length*E.size) w (fun i hi=>by rw [Nat.add_assoc];exact (hsp _ (hfit i hi)).1) (j-(E.all l).length) hjl;rw [hju] at this;rw [←this]
         congr 2
         rw [E.eD] at h1⊢;omega
     · refine ⟨World.isSome_setCells g _ _ w _ (hsp j hj).1, ?_⟩
       rw [World.frozen?_setCells];exact (hsp j hj).2
   · have hold:(Builtin.firstCells i.size l.length (.slice (some ⟨g,off,none⟩) l.length cap)).run P w.drew= .ok (E.all l).toArray w.drew:=
      run_firstCells_some w.drew i.size l.length ⟨g,off,none⟩ l.length cap (E.all l) (by rw [hsize];exact E.eD l) (fun j u hj=>by rw [Go.WideShapes.add_plain];exact hc j u hj)
     have hr:=run_append_grow_src (P:=P) w t t ty e i z ht hi hz (some ⟨g,off,none⟩) l.length cap (E.all l) hold s m.length (E.all m) hsrc (by omega) h63' (growslice_fits (by omega) hbytes);exact ⟨_,_,hr,grown cap (by omega),(aH.refl _ _).drew.alloc _,fun k h=> .inr (by injection h with h;subst h;exact Nat.le_refl _)⟩
theorem bV {w:World} {ops:Array Oper} {rest:List Oper} {o:Oper} {a:Act} {Q:Exit→Act→World→Prop} (hgd:o.guard=none) (s x:Operand) (t:TypeId)
 (ho:o.op= .call {callee:= .builtin .append,args:= #[s,x],argTypes:= #[t,t]})
 (e:TypeId) (i:TypeInfo) (z:Value) (bytes:Nat) (ht:P.underlying t=some (.slice e)) (hi:P.info? e=some i) (hz:i.zero=some z) (hsize:i.size=E.size) (hby:i.bytes=bytes) (hzs:z.cells.size=E.size)
 (v sv:Value) (l m:List α) (hs:a.eval s=v) (hx:a.eval x=sv) (hv:Vec E w v l) (hsv:Seq E w sv m) (h63:l.length+m.length≤maxLen) (hbytes:(l.length+m.length)*bytes≤140737488355328)
 (h: ∀v' w',Vec E w' v' (l++m)→aH (In v) w w'→(∀k,In v' k→In v k∨w.heap.size≤k)→wpList P ops Q rest (a.put o.dst v') w'):wpList P ops Q (o::rest) a w:=
 wpList_plain hgd fun K hK=>by
  obtain ⟨v',w',hr,h1,h2,h3⟩:=nZ (P:=P) w t o.type e i z bytes ht hi hz hsize hby hzs v sv l m hv hsv h63 hbytes;unfold Oper.wp execOp;simp only [ho,resolve,invoke,builtin,Sem.run_bind,Sem.run_pure,Result.andThen_ok,List.map_toArray,List.map_cons,List.map_nil,hs,hx,hr];exact hK _ _ (h v' w' h1 h2 h3)
theorem Ns {w:World} {ops:Array Oper} {o:Oper} {a:Act} {K:Act→World→Prop} {Q:Exit→Act→World→Prop} {X:Prop} (hgd:o.guard=none) (s x:Operand) (t:TypeId)
 (ho:o.op= .call {callee:= .builtin .append,args:= #[s,x],argTypes:= #[t,t]})
 (e:TypeId) (i:TypeInfo) (z:Value) (bytes:Nat) (ht:P.underlying t=some (.slice e)) (hi:P.info? e=some i) (hz:i.zero=some z) (hsize:i.size=E.size) (hby:i.bytes=bytes) (hzs:z.cells.size=E.size)
 (v sv:Value) (l m:List α) (hs:a.eval s=v) (hx:a.eval x=sv) (hv:Vec E w v l) (hsv:Seq E w sv m) (h63:l.length+m.length≤maxLen) (hbytes:(l.length+m.length)*bytes≤140737488355328)
 (h: ∀v' w',Vec E w' v' (l++m)→aH (In v) w w'→(∀k,In v' k→In v k∨w.heap.size≤k)→K (a.put o.dst v') w'):
 if Region.wanted o (yielded ops a.tmps)=true then Oper.wp P o a w K Q else X:=by
 have hw:Region.wanted o (yielded ops a.tmps)=true:=by simp [Region.wanted,hgd]
 rw [if_pos hw];obtain ⟨v',w',hr,h1,h2,h3⟩:=nZ (P:=P) w t o.type e i z bytes ht hi hz hsize hby hzs v sv l m hv hsv h63 hbytes;unfold Oper.wp execOp;simp only [ho,resolve,invoke,builtin,Sem.run_bind,Sem.run_pure,Result.andThen_ok,List.map_toArray,List.map_cons,List.map_nil,hs,hx,hr];exact h v' w' h1 h2 h3
theorem FD (a:Option Addr) (m:Nat):a.map (fun x=>x.add (0*m))=a:=by
 cases a with
 |none=>rfl
 |some x=>simp [Addr.add]
theorem abW (t:TypeId) (ht:P.underlying t=some (.slice (P.elem t))) (hsz: ∀w,(sizeOf (P.elem t)).run P w= .ok E.size w) (a:Option Addr) (n cap k:Nat) (hk:k≤cap):
 ∃sv,(∀w,(Instr.slice t (.slice a n cap) none (some (.int .i64 (k:Int))) none).run P w= .ok sv w)∧(∀b,In sv b→In (.slice a n cap) b)∧ ∀w l,Seq E w (.slice a n cap) l→k≤n→Seq E w sv (l.take k):=by
 refine ⟨.slice a k cap,fun w=> ?_,fun b hb=>by cases a<;>exact hb,fun w l h hkn=> ?_⟩
 · rw [run_slice_h (P:=P) (w:=w) t a n cap ht .i64 (k:Int) (by omega) (by omega),hsz]
   simp only [Result.andThen_ok,sliced,Int.toNat_natCast,Nat.sub_zero,FD,ite_self]
 · obtain rfl:=h.len
   rcases h with ⟨b,off,c,e,hc⟩|⟨rfl,a',c,e,hac⟩
   · injection e with e1 _ e3
     subst e1 e3;have hl:(l.take k).length=k:=by simp;omega
     refine .inl ⟨b,off,cap,by rw [hl],fun j u hj=>hc j u ?_⟩;rw [E.Rj] at hj;have hjk:j<k*E.size:=by have:=(List.getElem?_eq_some_iff.1 hj).1;rw [List.length_take] at this;omega
     rwa [List.getElem?_take_of_lt hjk] at hj
   · injection e with e1 _ e3
     subst e1 e3;have:k=0:=by simpa using hkn
     subst this;exact .inr ⟨by simp,a,cap,rfl,hac⟩
theorem QT (t:TypeId) (ht:P.underlying t=some (.slice (P.elem t))) (hsz: ∀w,(sizeOf (P.elem t)).run P w= .ok E.size w) (a:Option Addr) (n cap k:Nat) (hk:k≤n) (hn:n≤cap):
 ∃sv,(∀w,(Instr.slice t (.slice a n cap) (some (.int .i64 (k:Int))) none none).run P w= .ok sv w)∧(∀b,In sv b→In (.slice a n cap) b)∧(∀w l,Seq E w (.slice a n cap) l→Seq E w sv (l.drop k))∧ ∀w l,Vec E w (.slice a n cap) l→Vec E w sv (l.drop k):=by
 refine ⟨sliced a k n cap E.size,fun w=> ?_,fun b hb=> ?_,fun w l h=> ?_,fun w l h=> ?_⟩
 · rw [run_slice_l (P:=P) (w:=w) t a n cap ht .i64 (k:Int) (by omega) (by omega),hsz]
   simp only [Result.andThen_ok,Int.toNat_natCast]
 · unfold sliced at hb
   cases a with
   |none=>split at hb<;>exact hb
   |some x=>
    have e:(x.add (k*E.size)).block=x.block:=by unfold Addr.add;split<;>rfl
    split at hb
    · exact hb
    · simp only [In,Value.ownBlock,Option.map] at hb⊢
      rw [←hb,e]
 · obtain rfl:=h.len
   rcases h with ⟨b,off,c,e,hc⟩|⟨rfl,a',c,e,hac⟩
   · injection e with e1 _ e3
     subst e1 e3;by_cases hck:cap=k
     · have hd:l.drop k= []:=List.drop_eq_nil_of_le (by omega)
       refine .inr ⟨hd,some ⟨b,off,none⟩,cap-k, ?_,by simp⟩;simp only [sliced,if_pos hck];rw [show l.length-k=0 by omega]
     · have hl:(l.drop k).length=l.length-k:=List.length_drop
       refine .inl ⟨b,off+k*E.size,cap-k, ?_,fun j u hj=> ?_⟩
       · simp only [sliced,if_neg hck,Option.map_some,Go.WideShapes.add_plain,hl]
       · rw [E.Fz,List.getElem?_drop] at hj
         rw [Nat.add_assoc];exact hc _ u hj
   · injection e with e1 _ e3
     subst e1 e3;have:k=0:=by simpa using hk
     subst this;refine .inr ⟨by simp,a,cap, ?_,hac⟩;simp only [sliced,FD,ite_self,Nat.sub_zero];rfl
 · obtain rfl:=h.elem
   rcases h with ⟨e,rfl⟩|⟨b,off,c,e,hg,hnc,hm,hc,hsp⟩
   · injection e with e1 e2 e3
     subst e1 e3;have:k=0:=by simpa using hk
     subst this;refine .inl ⟨?_,by simp⟩;simp [sliced]
   · injection e with e1 _ e3
     subst e1 e3;have hl:(l.drop k).length=l.length-k:=List.length_drop;by_cases hck:cap=k
     · have hd:l.drop k= []:=List.drop_eq_nil_of_le (by omega)
       refine .inr ⟨b,off,cap-k, ?_,hg,by rw [hd];simp,by omega,fun j u hj=> ?_,fun j hj=> ?_⟩
       · simp only [sliced,if_pos hck,hl]
       · rw [hd] at hj;simp [Elem.all] at hj
       · rw [show cap-k=0 by omega,Nat.zero_mul] at hj;omega
     · refine .inr ⟨b,off+k*E.size,cap-k, ?_,hg,by rw [hl];omega,by omega,fun j u hj=> ?_,fun j hj=> ?_⟩
       · simp only [sliced,if_neg hck,Option.map_some,Go.WideShapes.add_plain,hl]
       · rw [E.Fz,List.getElem?_drop] at hj
         rw [Nat.add_assoc];exact hc _ u hj
       · rw [Nat.add_assoc]
         refine hsp _ ?_;have:k*E.size+(cap-k)*E.size=cap*E.size:=by rw [←Nat.add_mul];congr 1;omega
         omega
end
end Go.Proofs.YtpibbcnkgdmcbaaGreatDoor
