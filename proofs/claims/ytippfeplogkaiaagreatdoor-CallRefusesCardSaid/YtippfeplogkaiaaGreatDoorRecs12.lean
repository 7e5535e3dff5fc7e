/- Recs12: texts of layers below, joined (Flat Recs Reads). -/
import Derived.Test.YtippfeplogkaiaaGreatDoorInts
import Derived.Deep.Slices
import Derived.Deep.Fields
import Derived.ChangeSame
import Derived.Test.YtippfeplogkaiaaGreatDoorVec
namespace Go.Proofs.YtippfeplogkaiaaGreatDoor
open Go.ChangeShapes Go.WideShapes Go.RowKit Go.Deep
set_option linter.unusedVariables false
inductive Leaf where
  |num (k:IntKind)
  |flag
  |text
  |nums (k:IntKind)
  |flags
def NumsAt (w:World) (k:IntKind) (u:Value) (l:List Int):Prop:=
  ∃a cap,u= .slice a l.length cap∧l.length≤cap∧cap≤9223372036854775807∧(a=none→cap=0)∧(∀i,i<l.length→ ∃b off,a=some ⟨b,off,none⟩∧w.cell? ⟨b,off+i,none⟩=some (.int k (l.getD i 0)))∧ ∀n∈l,(Lit.int k n).wf=true
def FlagsAt (w:World) (u:Value) (l:List Bool):Prop:=
  ∃a cap,u= .slice a l.length cap∧l.length≤cap∧cap≤9223372036854775807∧(a=none→cap=0)∧(∀i,i<l.length→ ∃b off,a=some ⟨b,off,none⟩∧w.cell? ⟨b,off+i,none⟩=some (.bool (l.getD i false)))
def Leaf.ok (w:World):Leaf→Value→Prop
  | .num k,u=> ∃n,u= .int k n∧(Lit.int k n).wf=true
  | .flag,u=> ∃b,u= .bool b
  | .text,u=> ∃s,u= .string s∧s.size≤9223372036854775807
  | .nums k,u=> ∃l,NumsAt w k u l
  | .flags,u=> ∃l,FlagsAt w u l
theorem cell_later {w w':World} {B b o:Nat} {v:Value} (h:w.cell? ⟨b,o,none⟩=some v) (hB:w.heap.size≤B) (hb:Below B w w'):w'.cell? ⟨b,o,none⟩=some v:=by
  have hlt:=World.block_lt_of_cell? w _ h
  rw [hb.cell (p:=⟨b,o,none⟩) (by simp only at hlt⊢;omega)];exact h
theorem NumsAt.below {w w':World} {k:IntKind} {u:Value} {l:List Int} (h:NumsAt w k u l) {B:Nat} (hB:w.heap.size≤B) (hb:Below B w w'):NumsAt w' k u l:=by
  obtain ⟨a,cap,e,h1,h2,h3,h4,h5⟩:=h
  refine ⟨a,cap,e,h1,h2,h3,fun i hi=> ?_,h5⟩
  obtain ⟨b,off,ea,hc⟩:=h4 i hi
  exact ⟨b,off,ea,cell_later hc hB hb⟩
theorem FlagsAt.below {w w':World} {u:Value} {l:List Bool} (h:FlagsAt w u l) {B:Nat} (hB:w.heap.size≤B) (hb:Below B w w'):FlagsAt w' u l:=by
  obtain ⟨a,cap,e,h1,h2,h3,h4⟩:=h
  refine ⟨a,cap,e,h1,h2,h3,fun i hi=> ?_⟩
  obtain ⟨b,off,ea,hc⟩:=h4 i hi
  exact ⟨b,off,ea,cell_later hc hB hb⟩
theorem Leaf.ok.below {w w':World} {f:Leaf} {u:Value} (h:f.ok w u) {B:Nat} (hB:w.heap.size≤B) (hb:Below B w w'):f.ok w' u:=by
  cases f with
  |num k=>exact h
  |flag=>exact h
  |text=>exact h
  |nums k=>obtain ⟨l,hl⟩:=h;exact ⟨l,hl.below hB hb⟩
  |flags=>obtain ⟨l,hl⟩:=h;exact ⟨l,hl.below hB hb⟩
def fieldLeaves (P:Program) (g:TypeId→Option (List Leaf)):Nat→List Field→Option (List Leaf)
  |_, []=>some []
  | o,f::r=>match g f.type with
    |none=>none
    |some a=>if f.offset==o&&P.cellsOf f.type==a.length then (match fieldLeaves P g (o+a.length) r with|none=>none|some b=>some (a++b)) else none
def leaves (P:Program):Nat→TypeId→Option (List Leaf)
  |0,_=>none
  | n +1,t=>match P.underlying t with
    |some (.int k)=>some [.num k]
    |some .bool=>some [.flag]
    |some .string=>some [.text]
    | some (.slice e)=>(match P.underlying e with
      |some (.int k)=>if P.cellsOf e==1 then some [.nums k] else none
      |some .bool=>if P.cellsOf e==1 then some [.flags] else none
      |_=>none)
    |some (.struct fs)=>(match fieldLeaves P (leaves P n) 0 fs.toList with|none=>none|some ls=>if P.cellsOf t==ls.length then some ls else none)
    |_=>none
section
variable {H:Type} {enc:TypeId×Value→H} {P:Program} {w:World} {base:Nat} {spare:Nat→Bool} {held:Bool}
def AllOk (w:World) (ls:List Leaf) (cs:List Value):Prop:=cs.length=ls.length∧ ∀(j:Nat) (f:Leaf),ls[j]? =some f→ ∃u,cs[j]? =some u∧f.ok w u
theorem allOk_one {w:World} {f:Leaf} {u:Value} (h:f.ok w u):AllOk w [f] [u]:=by
  refine ⟨rfl,fun j g hj=> ?_⟩
  cases j with
  |zero=>injection hj with hj;subst hj;exact ⟨u,rfl,h⟩
  |succ j=>simp at hj
theorem allOk_append {w:World} {a b:List Leaf} {cs ds:List Value} (h:AllOk w a cs) (k:AllOk w b ds):AllOk w (a++b) (cs++ds):=by
  refine ⟨by simp [h.1,k.1],fun j f hj=> ?_⟩
  rcases Nat.lt_or_ge j a.length with h1|h1
  · rw [List.getElem?_append_left h1] at hj
    rw [List.getElem?_append_left (by rw [h.1];exact h1)]
    exact h.2 j f hj
  · rw [List.getElem?_append_right h1] at hj
    rw [List.getElem?_append_right (by rw [h.1];exact h1),h.1]
    exact k.2 _ f hj
theorem fields_ok (g:TypeId→Option (List Leaf)) (n:Nat) (hg: ∀t ls,g t=some ls→ ∀cs x,DataW.trod enc P w base spare held n t cs=some x→AllOk w ls cs)
    (cs:List Value): ∀(fs:List Field) (o:Nat) (ls:List Leaf),fieldLeaves P g o fs=some ls→cs.length=o+ls.length→(∀f∈fs,∃x,DataW.trod enc P w base spare held n f.type ((cs.drop f.offset).take (P.cellsOf f.type))=some x)→AllOk w ls (cs.drop o):=by
  intro fs
  induction fs with
  | nil=>
    intro o ls h hl _
    injection h with h
    subst h
    refine ⟨by simp at hl⊢;omega,fun j f hj=>by simp at hj⟩
  | cons f r ih=>
    intro o ls h hl hx
    unfold fieldLeaves at h
    cases hgf:g f.type with
    |none=>rw [hgf] at h;cases h
    | some a=>
      rw [hgf] at h
      simp only at h
      by_cases hc:(f.offset==o&&P.cellsOf f.type==a.length)=true
      · rw [if_pos hc] at h
        simp only [Bool.and_eq_true,beq_iff_eq] at hc
        cases hr:fieldLeaves P g (o+a.length) r with
        |none=>rw [hr] at h;cases h
        | some b=>
          rw [hr] at h
          injection h with h
          subst h
          simp only [List.length_append] at hl
          obtain ⟨x,hx0⟩:=hx f (by simp)
          rw [hc.1,hc.2] at hx0
          have h1:=hg _ _ hgf _ _ hx0
          have h2:=ih (o+a.length) b hr (by omega) (fun f' hf'=>hx f' (by simp [hf']))
          have e:cs.drop o=(cs.drop o).take a.length++cs.drop (o+a.length):=by
            rw [←List.drop_drop,List.take_append_drop]
          rw [e]
          exact allOk_append h1 h2
      · rw [if_neg hc] at h;cases h
theorem row_plain {a:Addr} {n:Nat} {F:Nat→Value} (h: ∀i,i<n→w.cell? (a.add i)=some (F i)) (hn:0<n): ∃b off,a=⟨b,off,none⟩∧ ∀i,i<n→w.cell? ⟨b,off+i,none⟩=some (F i):=by
  obtain ⟨b,off,spot⟩:=a
  have hspot:spot=none:=by simpa [Addr.add] using World.cell?_spot (h 0 hn)
  subst hspot
  exact ⟨b,off,rfl,fun j hj=>by rw [←Go.WideShapes.add_plain];exact h j hj⟩
theorem leaves_ok : ∀(n:Nat) (t:TypeId) (ls:List Leaf),leaves P n t=some ls→ ∀(fuel:Nat) (cs:List Value) (x:DataW H×List MemPlace),DataW.trod enc P w base spare held fuel t cs=some x→AllOk w ls cs:=by
  intro n
  induction n with
  |zero=>intro t ls h;cases h
  | succ n ih =>
    intro t ls h fuel cs x hx
    unfold leaves at h
    cases hu:P.underlying t with
    |none=>rw [hu] at h;cases h
    | some ty =>
      rw [hu] at h
      cases ty with
      | int k=>
        injection h with h;subst h
        obtain ⟨z,rfl,_,hw⟩:=DataW.trod_int hu hx
        exact allOk_one ⟨z,rfl,hw⟩
      | bool=>
        injection h with h;subst h
        obtain ⟨b,rfl,_⟩:=DataW.trod_bool hu hx
        exact allOk_one ⟨b,rfl⟩
      | string=>
        injection h with h;subst h
        obtain ⟨s,rfl,_,hs⟩:=DataW.trod_string hu hx
        exact allOk_one ⟨s,rfl,by simpa [maxLen] using hs⟩
      | slice e =>
        simp only at h
        cases he:P.underlying e with
        |none=>rw [he] at h;cases h
        | some te =>
          rw [he] at h
          cases te with
          | int k=>
            simp only at h
            by_cases hc:(P.cellsOf e==1)=true
            · rw [if_pos hc] at h
              injection h with h;subst h
              rcases open_ints hu he (by simpa using hc) hx with ⟨rfl,_⟩|⟨a,len,cap,zs,rfl,_,hl,hm,hz,_,hcell,hwz⟩
              · exact allOk_one ⟨[],none,0,rfl,by simp,by simp,fun _=>rfl,fun i hi=>by simp at hi,by simp⟩
              · have hlz:len≤zs.length:=by rw [hz];split<;>omega
                have hlen:(zs.take len).length=len:=by simp;omega
                refine allOk_one ⟨zs.take len,some a,cap,by rw [hlen],by rw [hlen];exact hl,by simpa [maxLen] using hm,by simp,fun i hi=> ?_,fun z hz'=>hwz z (List.mem_of_mem_take hz')⟩
                rw [hlen] at hi
                obtain ⟨b,off,rfl,hc'⟩:=row_plain hcell (by omega)
                refine ⟨b,off,rfl, ?_⟩
                rw [hc' i (by omega)]
                simp [List.getD_eq_getElem?_getD,List.getElem?_take_of_lt hi]
            · rw [if_neg hc] at h;cases h
          | bool=>
            simp only at h
            by_cases hc:(P.cellsOf e==1)=true
            · rw [if_pos hc] at h
              injection h with h;subst h
              have hc1:P.cellsOf e=1:=by simpa using hc
              rcases open_slice hu hx with ⟨rfl,_⟩|⟨a,len,cap,m,n',D,Pl,rfl,_,hl,hm,hmm,_,hi⟩
              · exact allOk_one ⟨[],none,0,rfl,by simp,by simp,fun _=>rfl,fun i hi=>by simp at hi⟩
              · have hlm:len≤m:=by rw [hmm];split<;>omega
                have each: ∀i,∃y:Bool,i<len→w.cell? (a.add i)=some (.bool y):=by
                  intro i
                  by_cases hil:i<len
                  · obtain ⟨cs',hc',ht'⟩:=hi i (by omega)
                    rw [hc1,Nat.mul_one] at hc'
                    obtain ⟨y,rfl,_⟩:=DataW.trod_bool he ht'
                    obtain ⟨_,_,hat⟩:=World.cells?_some hc'
                    have:=hat 0 (by omega)
                    rw [add_add,Nat.add_zero] at this
                    exact ⟨y,fun _=>by simpa using this⟩
                  · exact ⟨false,fun h=>absurd h hil⟩
                have hlen:((List.range len).map fun i=>Classical.choose (each i)).length=len:=by simp
                refine allOk_one ⟨(List.range len).map fun i=>Classical.choose (each i),some a,cap,by rw [hlen],by rw [hlen];exact hl,by simpa [maxLen] using hm,by simp,fun i hi'=> ?_⟩
                rw [hlen] at hi'
                obtain ⟨b,off,rfl,hc'⟩:=row_plain (F:=fun i=> .bool (Classical.choose (each i))) (fun i hil=>Classical.choose_spec (each i) hil) (by omega)
                refine ⟨b,off,rfl, ?_⟩
                rw [hc' i hi']
                simp [List.getD_eq_getElem?_getD,hi']
            · rw [if_neg hc] at h;cases h
          |_=>cases h
      | struct fs=>
        obtain ⟨xs,n',rfl,_,hlen,hxl,hf⟩:=DataW.trod_struct hu hx
        simp only at h
        cases hfl:fieldLeaves P (leaves P n) 0 fs.toList with
        |none=>rw [hfl] at h;cases h
        | some ls'=>
          rw [hfl] at h
          simp only at h
          by_cases hc:(P.cellsOf t==ls'.length)=true
          · rw [if_pos hc] at h
            injection h with h
            subst h
            have hc1:P.cellsOf t=ls'.length:=by simpa using hc
            have:=fields_ok (P:=P) (w:=w) (enc:=enc) (base:=base) (spare:=spare) (held:=held) (leaves P n) n' (fun t ls hg cs x hx=>ih t ls hg n' cs x hx) cs fs.toList 0 ls' hfl (by omega) (fun f hfm=>by
              obtain ⟨i,hi,rfl⟩:=List.mem_iff_getElem.1 hfm
              have hi':i<fs.size:=by simpa using hi
              have h1:=hf i fs[i] (by simp [hi'])
              rw [List.getElem?_eq_getElem (show i<xs.length by omega)] at h1
              exact ⟨_,by simpa using h1⟩)
            simpa using this
          · rw [if_neg hc] at h;cases h
      |_=>cases h
end
end Go.Proofs.YtippfeplogkaiaaGreatDoor
namespace Go.Proofs.YtippfeplogkaiaaGreatDoor
open Go.ChangeShapes Go.WideShapes Go.RowKit Go.Deep
set_option linter.unusedVariables false
def Recs (w:World) (v:Value) (ls:List Leaf) (len:Nat) (F:Nat→Nat→Value):Prop:=
  ∃ a cap,v= .slice a len cap∧len≤cap∧cap≤9223372036854775807∧(a=none→cap=0)∧
    (∀i,i<len→ ∃b off,a=some ⟨b,off,none⟩∧ ∀j,j<ls.length→w.cell? ⟨b,off+i*ls.length+j,none⟩=some (F i j))∧
    ∀i,i<len→ ∀(j:Nat) (f:Leaf),ls[j]? =some f→f.ok w (F i j)
theorem Recs.below {w w':World} {v:Value} {ls:List Leaf} {len:Nat} {F:Nat→Nat→Value} (h:Recs w v ls len F) {B:Nat} (hB:w.heap.size≤B) (hb:Below B w w'):Recs w' v ls len F:=by
  obtain ⟨a,cap,e,h1,h2,h3,h4,h5⟩:=h
  refine ⟨a,cap,e,h1,h2,h3,fun i hi=> ?_,fun i hi j f hj=>(h5 i hi j f hj).below hB hb⟩
  obtain ⟨b,off,ea,hc⟩:=h4 i hi
  exact ⟨b,off,ea,fun j hj=>cell_later (hc j hj) hB hb⟩
theorem Recs.len {w:World} {a:Option Addr} {n cap:Nat} {ls:List Leaf} {len:Nat} {F:Nat→Nat→Value} (h:Recs w (.slice a n cap) ls len F):n=len∧n≤cap∧cap≤9223372036854775807:=by
  obtain ⟨a',cap',e,h1,h2,_⟩:=h
  injection e with _ e2 e3
  subst e2 e3
  exact ⟨rfl,h1,h2⟩
theorem Recs.elem {w:World} {a:Option Addr} {n cap:Nat} {ls:List Leaf} {len:Nat} {F:Nat→Nat→Value} (h:Recs w (.slice a n cap) ls len F) {i:Nat} (hi:i<len):
    ∃b off,a=some ⟨b,off,none⟩∧ ∀j,j<ls.length→w.cell? ⟨b,off+i*ls.length+j,none⟩=some (F i j):=by
  obtain ⟨a',cap',e,_,_,_,h4,_⟩:=h
  injection e with e1 _ _
  subst e1
  exact h4 i hi
theorem Recs.leaf {w:World} {v:Value} {ls:List Leaf} {len:Nat} {F:Nat→Nat→Value} (h:Recs w v ls len F) {i:Nat} (hi:i<len) (j:Nat) (f:Leaf) (hj:ls[j]? =some f):f.ok w (F i j):=by
  obtain ⟨_,_,_,_,_,_,_,h5⟩:=h
  exact h5 i hi j f hj
section
variable {H:Type} {enc:TypeId×Value→H} {P:Program} {w:World} {base:Nat} {spare:Nat→Bool} {held:Bool}
end
def asInt:Value→Int
  | .int _ n=>n
  |_=>0
theorem leaf_int {w:World} {k:IntKind} {u:Value} (h:(Leaf.num k).ok w u):u= .int k (asInt u)∧(Lit.int k (asInt u)).wf=true:=by
  obtain ⟨n,rfl,hw⟩:=h;exact ⟨rfl,hw⟩
theorem NumsAt.ints {w:World} {a:Option Addr} {n cap:Nat} {l:List Int} (h:NumsAt w .i64 (.slice a n cap) l):IsInts w (.slice a n cap) l:=by
  obtain ⟨a',cap',e,h1,h2,h3,h4,h5⟩:=h
  injection e with e1 e2 e3
  subst e1 e2 e3
  refine ⟨?_,fun n hn=> .of (h5 n hn),by omega,by intro a n c h;injection h;omega⟩
  by_cases h0:0<l.length
  · obtain ⟨b,off,rfl,_⟩:=h4 0 h0
    refine .inl ⟨b,off,_,rfl,fun j hj=> ?_⟩
    obtain ⟨b',off',e,hc⟩:=h4 j hj
    injection e with e
    injection e with eb eo _
    subst eb eo
    exact hc
  · have hl:l= []:=List.length_eq_zero_iff.1 (by omega)
    subst hl
    exact .inr ⟨rfl,_,_,rfl,h3⟩
end Go.Proofs.YtippfeplogkaiaaGreatDoor
namespace Go.Proofs.YtippfeplogkaiaaGreatDoor
open Go.RowKit
set_option linter.unusedVariables false
theorem FlagsAt.seq {w:World} {v:Value} {l:List Bool} (h:FlagsAt w v l):Seq Elem.bools w v l:=by
  obtain ⟨a,cap,rfl,_,_,h3,h4⟩:=h
  by_cases h0:0<l.length
  · obtain ⟨b,off,rfl,_⟩:=h4 0 h0
    refine .inl ⟨b,off,cap,rfl,fun j u hj=> ?_⟩
    have hjl:j<l.length:=by have:=(List.getElem?_eq_some_iff.1 hj).1;rw [Elem.length_all] at this;simpa [Elem.bools] using this
    obtain ⟨b',off',e,hc⟩:=h4 j hjl
    injection e with e
    injection e with eb eo _
    subst eb eo
    rw [hc]
    have h5:=Elem.bools.all_at (l:=l) (i:=j) (x:=l.getD j false) (by simp [List.getD_eq_getElem?_getD,hjl]) 0 (by decide)
    rw [show j*Elem.bools.size+0=j by simp [Elem.bools]] at h5
    rw [h5] at hj
    simpa [Elem.bools] using hj
  · have hl:l= []:=List.length_eq_zero_iff.1 (by omega)
    subst hl
    exact .inr ⟨rfl,_,_,rfl,h3⟩
theorem Recs.act {w:World} {a:Option Addr} {n cap len:Nat} {F:Nat→Nat→Value} (h:Recs w (.slice a n cap) [.num .i64, .num .i64, .flags] len F) {i:Nat} (hi:i<len):
    ∃b off x y A m c,∃lf:List Bool,a=some ⟨b,off,none⟩∧w.cell? ⟨b,off+i*3,none⟩=some (.int .i64 x)∧w.cell? ⟨b,off+i*3+1,none⟩=some (.int .i64 y)∧w.cell? ⟨b,off+i*3+2,none⟩=some (.slice A m c)∧FlagsAt w (.slice A m c) lf∧I64 x∧I64 y:=by
  obtain ⟨b,off,rfl,hc⟩:=h.elem hi
  have c0:=hc 0 (by simp)
  have c1:=hc 1 (by simp)
  have c2:=hc 2 (by simp)
  have l0:=leaf_int (h.leaf hi 0 _ rfl)
  have l1:=leaf_int (h.leaf hi 1 _ rfl)
  have l2:=h.leaf hi 2 _ rfl
  obtain ⟨lf,A,c,e,hl⟩:=l2
  rw [l0.1] at c0
  rw [l1.1] at c1
  rw [e] at c2
  exact ⟨b,off,asInt (F i 0),asInt (F i 1),A,lf.length,c,lf,rfl,c0,c1,c2,⟨A,c,rfl,hl⟩, .of l0.2, .of l1.2⟩
theorem FlagsAt.len {w:World} {a:Option Addr} {n cap:Nat} {l:List Bool} (h:FlagsAt w (.slice a n cap) l):n=l.length:=by
  obtain ⟨_,_,e,_⟩:=h;injection e
end Go.Proofs.YtippfeplogkaiaaGreatDoor
