/- Recs12: texts of layers below, joined (Flat Recs Reads). -/
import Derived.Test.YtpibbcnkgdmcbaaGreatDoorInts
import Derived.Deep.Slices
import Derived.Deep.Fields
import Derived.ChangeSame
import Derived.Test.YtpibbcnkgdmcbaaGreatDoorVec
set_option linter.unusedVariables false
namespace Go.Proofs.YtpibbcnkgdmcbaaGreatDoor
open Go.ChangeShapes Go.WideShapes Go.RowKit Go.Deep
inductive Leaf where
 |num (k:IntKind)
 |flag
 |text
 |nums (k:IntKind)
 |flags
def pz (w:World) (k:IntKind) (u:Value) (l:List Int):Prop:=
 ∃a cap,u= .slice a l.length cap∧l.length≤cap∧cap≤9223372036854775807∧(a=none→cap=0)∧(∀i,i<l.length→ ∃b off,a=some ⟨b,off,none⟩∧w.cell? ⟨b,off+i,none⟩=some (.int k (l.getD i 0)))∧ ∀n∈l,(Lit.int k n).wf=true
def jV (w:World) (u:Value) (l:List Bool):Prop:=
 ∃a cap,u= .slice a l.length cap∧l.length≤cap∧cap≤9223372036854775807∧(a=none→cap=0)∧(∀i,i<l.length→ ∃b off,a=some ⟨b,off,none⟩∧w.cell? ⟨b,off+i,none⟩=some (.bool (l.getD i false)))
def Leaf.ok (w:World):Leaf→Value→Prop
 | .num k,u=> ∃n,u= .int k n∧(Lit.int k n).wf=true
 | .flag,u=> ∃b,u= .bool b
 | .text,u=> ∃s,u= .string s∧s.size≤9223372036854775807
 | .nums k,u=> ∃l,pz w k u l
 | .flags,u=> ∃l,jV w u l
theorem cell_later {w w':World} {B b o:Nat} {v:Value} (h:w.cell? ⟨b,o,none⟩=some v) (hB:w.heap.size≤B) (hb:Below B w w'):w'.cell? ⟨b,o,none⟩=some v:=by
 have hlt:=World.block_lt_of_cell? w _ h;rw [hb.cell (p:=⟨b,o,none⟩) (by simp only at hlt⊢;omega)];exact h
theorem pz.below {w w':World} {k:IntKind} {u:Value} {l:List Int} (h:pz w k u l) {B:Nat} (hB:w.heap.size≤B) (hb:Below B w w'):pz w' k u l:=by
 obtain ⟨a,cap,e,h1,h2,h3,h4,h5⟩:=h;refine ⟨a,cap,e,h1,h2,h3,fun i hi=> ?_,h5⟩;obtain ⟨b,off,ea,hc⟩:=h4 i hi;exact ⟨b,off,ea,cell_later hc hB hb⟩
theorem jV.below {w w':World} {u:Value} {l:List Bool} (h:jV w u l) {B:Nat} (hB:w.heap.size≤B) (hb:Below B w w'):jV w' u l:=by
 obtain ⟨a,cap,e,h1,h2,h3,h4⟩:=h;refine ⟨a,cap,e,h1,h2,h3,fun i hi=> ?_⟩;obtain ⟨b,off,ea,hc⟩:=h4 i hi;exact ⟨b,off,ea,cell_later hc hB hb⟩
theorem Leaf.ok.below {w w':World} {f:Leaf} {u:Value} (h:f.ok w u) {B:Nat} (hB:w.heap.size≤B) (hb:Below B w w'):f.ok w' u:=by
 cases f with
 |num k=>exact h
 |flag=>exact h
 |text=>exact h
 |nums k=>obtain ⟨l,hl⟩:=h;exact ⟨l,hl.below hB hb⟩
 |flags=>obtain ⟨l,hl⟩:=h;exact ⟨l,hl.below hB hb⟩
def vL (P:Program) (g:TypeId→Option (List Leaf)):Nat→List Field→Option (List Leaf)
 |_, []=>some []
 |o,f::r=>match g f.type with
  |none=>none
  |some a=>if f.offset==o&&P.cellsOf f.type==a.length then (match vL P g (o+a.length) r with|none=>none|some b=>some (a++b)) else none
def leaves (P:Program):Nat→TypeId→Option (List Leaf)
 |0,_=>none
 |n+1,t=>match P.underlying t with
  |some (.int k)=>some [.num k]
  |some .bool=>some [.flag]
  |some .string=>some [.text]
  |some (.slice e)=>(match P.underlying e with
   |some (.int k)=>if P.cellsOf e==1 then some [.nums k] else none
   |some .bool=>if P.cellsOf e==1 then some [.flags] else none
   |_=>none)
  |some (.struct fs)=>(match vL P (leaves P n) 0 fs.toList with|none=>none|some ls=>if P.cellsOf t==ls.length then some ls else none)
  |_=>none
section
variable {H:Type} {enc:TypeId×Value→H} {P:Program} {w:World} {base:Nat} {spare:Nat→Bool} {held:Bool}
end
end Go.Proofs.YtpibbcnkgdmcbaaGreatDoor
namespace Go.Proofs.YtpibbcnkgdmcbaaGreatDoor
open Go.ChangeShapes Go.WideShapes Go.RowKit Go.Deep
def zx (w:World) (v:Value) (ls:List Leaf) (len:Nat) (F:Nat→Nat→Value):Prop:=
 ∃a cap,v= .slice a len cap∧len≤cap∧cap≤9223372036854775807∧(a=none→cap=0)∧
  (∀i,i<len→ ∃b off,a=some ⟨b,off,none⟩∧ ∀j,j<ls.length→w.cell? ⟨b,off+i*ls.length+j,none⟩=some (F i j))∧
  ∀i,i<len→ ∀(j:Nat) (f:Leaf),ls[j]? =some f→f.ok w (F i j)
theorem zx.below {w w':World} {v:Value} {ls:List Leaf} {len:Nat} {F:Nat→Nat→Value} (h:zx w v ls len F) {B:Nat} (hB:w.heap.size≤B) (hb:Below B w w'):zx w' v ls len F:=by
 obtain ⟨a,cap,e,h1,h2,h3,h4,h5⟩:=h;refine ⟨a,cap,e,h1,h2,h3,fun i hi=> ?_,fun i hi j f hj=>(h5 i hi j f hj).below hB hb⟩;obtain ⟨b,off,ea,hc⟩:=h4 i hi;exact ⟨b,off,ea,fun j hj=>cell_later (hc j hj) hB hb⟩
theorem zx.len {w:World} {a:Option Addr} {n cap:Nat} {ls:List Leaf} {len:Nat} {F:Nat→Nat→Value} (h:zx w (.slice a n cap) ls len F):n=len∧n≤cap∧cap≤9223372036854775807:=by
 obtain ⟨a',cap',e,h1,h2,_⟩:=h;injection e with _ e2 e3
 subst e2 e3;exact ⟨rfl,h1,h2⟩
theorem zx.elem {w:World} {a:Option Addr} {n cap:Nat} {ls:List Leaf} {len:Nat} {F:Nat→Nat→Value} (h:zx w (.slice a n cap) ls len F) {i:Nat} (hi:i<len):
 ∃b off,a=some ⟨b,off,none⟩∧ ∀j,j<ls.length→w.cell? ⟨b,off+i*ls.length+j,none⟩=some (F i j):=by
 obtain ⟨a',cap',e,_,_,_,h4,_⟩:=h;injection e with e1 _ _
 subst e1;exact h4 i hi
theorem zx.leaf {w:World} {v:Value} {ls:List Leaf} {len:Nat} {F:Nat→Nat→Value} (h:zx w v ls len F) {i:Nat} (hi:i<len) (j:Nat) (f:Leaf) (hj:ls[j]? =some f):f.ok w (F i j):=by
 obtain ⟨_,_,_,_,_,_,_,h5⟩:=h;exact h5 i hi j f hj
section
variable {H:Type} {enc:TypeId×Value→H} {P:Program} {w:World} {base:Nat} {spare:Nat→Bool} {held:Bool}
end
def asInt:Value→Int
 | .int _ n=>n
 |_=>0
theorem Et {w:World} {k:IntKind} {u:Value} (h:(Leaf.num k).ok w u):u= .int k (asInt u)∧(Lit.int k (asInt u)).wf=true:=by
 obtain ⟨n,rfl,hw⟩:=h;exact ⟨rfl,hw⟩
theorem pz.ints {w:World} {a:Option Addr} {n cap:Nat} {l:List Int} (h:pz w .i64 (.slice a n cap) l):Ji w (.slice a n cap) l:=by
 obtain ⟨a',cap',e,h1,h2,h3,h4,h5⟩:=h;injection e with e1 e2 e3
 subst e1 e2 e3;refine ⟨?_,fun n hn=> .of (h5 n hn),by omega,by intro a n c h;injection h;omega⟩;by_cases h0:0<l.length
 · obtain ⟨b,off,rfl,_⟩:=h4 0 h0
   refine .inl ⟨b,off,_,rfl,fun j hj=> ?_⟩;obtain ⟨b',off',e,hc⟩:=h4 j hj;injection e with e
   injection e with eb eo _
   subst eb eo;exact hc
 · have hl:l= []:=List.length_eq_zero_iff.1 (by omega)
   subst hl;exact .inr ⟨rfl,_,_,rfl,h3⟩
end Go.Proofs.YtpibbcnkgdmcbaaGreatDoor
namespace Go.Proofs.YtpibbcnkgdmcbaaGreatDoor
open Go.RowKit
theorem jV.seq {w:World} {v:Value} {l:List Bool} (h:jV w v l):Seq Elem.bools w v l:=by
 obtain ⟨a,cap,rfl,_,_,h3,h4⟩:=h;by_cases h0:0<l.length
 · obtain ⟨b,off,rfl,_⟩:=h4 0 h0
   refine .inl ⟨b,off,cap,rfl,fun j u hj=> ?_⟩;have hjl:j<l.length:=by have:=(List.getElem?_eq_some_iff.1 hj).1;rw [Elem.eD] at this;simpa [Elem.bools] using this
   obtain ⟨b',off',e,hc⟩:=h4 j hjl;injection e with e
   injection e with eb eo _
   subst eb eo;rw [hc];have h5:=Elem.bools.Rk (l:=l) (i:=j) (x:=l.getD j false) (by simp [List.getD_eq_getElem?_getD,hjl]) 0 (by decide);rw [show j*Elem.bools.size+0=j by simp [Elem.bools]] at h5;rw [h5] at hj
   simpa [Elem.bools] using hj
 · have hl:l= []:=List.length_eq_zero_iff.1 (by omega)
   subst hl;exact .inr ⟨rfl,_,_,rfl,h3⟩
theorem zx.act {w:World} {a:Option Addr} {n cap len:Nat} {F:Nat→Nat→Value} (h:zx w (.slice a n cap) [.num .i64, .num .i64, .flags] len F) {i:Nat} (hi:i<len):
 ∃b off x y A m c,∃lf:List Bool,a=some ⟨b,off,none⟩∧w.cell? ⟨b,off+i*3,none⟩=some (.int .i64 x)∧w.cell? ⟨b,off+i*3+1,none⟩=some (.int .i64 y)∧w.cell? ⟨b,off+i*3+2,none⟩=some (.slice A m c)∧jV w (.slice A m c) lf∧gy x∧gy y:=by
 obtain ⟨b,off,rfl,hc⟩:=h.elem hi;have c0:=hc 0 (by simp);have c1:=hc 1 (by simp);have c2:=hc 2 (by simp);have l0:=Et (h.leaf hi 0 _ rfl);have l1:=Et (h.leaf hi 1 _ rfl);have l2:=h.leaf hi 2 _ rfl;obtain ⟨lf,A,c,e,hl⟩:=l2;rw [l0.1] at c0;rw [l1.1] at c1;rw [e] at c2;exact ⟨b,off,asInt (F i 0),asInt (F i 1),A,lf.length,c,lf,rfl,c0,c1,c2,⟨A,c,rfl,hl⟩, .of l0.2, .of l1.2⟩
theorem jV.len {w:World} {a:Option Addr} {n cap:Nat} {l:List Bool} (h:jV w (.slice a n cap) l):n=l.length:=by
 obtain ⟨_,_,e,_⟩:=h;injection e
end Go.Proofs.YtpibbcnkgdmcbaaGreatDoor
