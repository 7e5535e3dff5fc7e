/- (wip/heap: as wip/seg's, over a memory of whatever size.) What the laws of layer 12 need of the program's segments (to be proved of the code that landed): what a segment holds of its own is told by a predicate of the landed code's own; its pages are the landed pages. -/
import Derived.Test.YtpibbcnkgdmcbaaGreatDoorPages12
import Derived.Test.YtpibbcnkgdmcbaaGreatDoorSegm12
set_option linter.unusedVariables false
namespace Go.Proofs.YtpibbcnkgdmcbaaGreatDoor
open Go.RowKit aC aF aG aI au
abbrev Vl:=World→(sp p:Nat)→(Nat→Prop)→Addr→SG→Prop
def Px (o:bY):Array Value:= #[.pointer (some ⟨o.pp,0,none⟩), .int .i64 o.cls, .int .i64 (o.lo:Int), .int .i64 (o.wd:Int)]
structure Sg (Int':Vl) (w:World) (sp p g:Nat) (I:Nat→Prop) (c:Addr) (L:List Nat) (X:SG):Prop where
 int:Int' w sp p I c X
 mem:bC w p g L
 len:(X.pl+1)*16384≤L.length∧L.length≤1048576
 pl:X.pl≤63
 good:bX X
 own: ∀o∈X.L,aV w o.op 100 (Px o)
 pg: ∀o∈X.L,dU w o.pp p g L o.P∧aJ L o.P∧FU o.P∧o.P.cw≤18446744073709551615
 ops:(X.L.map fun o=>o.op).Nodup
 pps:(X.L.map fun o=>o.pp).Nodup
 sep: ¬I p∧ ¬I g∧ ∀o∈X.L,¬I o.op∧ ¬I o.pp∧o.op≠p∧o.op≠g∧ ∀x∈X.L,o.op≠x.pp
def SO (p g:Nat) (I:Nat→Prop) (X:SG) (b:Nat):Prop:=b=p∨b=g∨I b∨ ∃o∈X.L,b=o.op∨b=o.pp
def GI (o:Option bY):Value:= .pointer (o.map fun o=>⟨o.op,0,none⟩)
structure fH (w0:World) where
 Int':Vl
 Gi: ∀{w sp p I c X} {pp:Nat} {S:PG},Int' w sp p I c X→Int' w sp p I c (X.put pp S)
 upd: ∀{w sp p I c X} {w':World} {T:Nat→Prop},Int' w sp p I c X→aH T w w'→(∀b,T b→ ¬I b)→Int' w' sp p I c X
 num: ∀{w sp p I c X},Int' w sp p I c X→I sp∧I c.block∧X.ow≤18446744073709551615∧ ∀b,I b→b<w.heap.size
 ownB: ∀{w sp p I c X},Int' w sp p I c X→ ∃t cs,aV w c.block t cs
 spB: ∀{w sp p I c X},Int' w sp p I c X→ ∃t cs,aV w sp t cs
 new: ∀w,Below w0.heap.size w0 w→ ∀{p g pl:Nat} {L:List Nat},bC w p g L→L.length≤1048576→(pl+1)*16384≤L.length→
  Calls Tryz.prog 126 #[.pointer (some ⟨p,0,none⟩), .int .i64 (pl:Int)] w fun e w'=> ∃sp c I,e= .returned (.tuple #[.pointer (some ⟨sp,0,none⟩), .int .i64 0])∧Int' w' sp p I c (iY pl)∧(∀b,I b→w.heap.size≤b)∧Below w.heap.size w w'
 JM: ∀w,Below w0.heap.size w0 w→ ∀{p g:Nat} {L:List Nat} {pl:Int},bC w p g L→L.length≤1048576→dH pl→(pl<0∨(L.length:Int)<(pl+1)*16384)→
  Calls Tryz.prog 126 #[.pointer (some ⟨p,0,none⟩), .int .i64 pl] w fun e w'=>e= .returned (.tuple #[.pointer none, .int .i64 2])∧Below w.heap.size w w'
 place: ∀w,Below w0.heap.size w0 w→ ∀{sp p g:Nat} {I:Nat→Prop} {c:Addr} {L:List Nat} {X:SG},Sg Int' w sp p g I c L X→
  Calls Tryz.prog 96 #[.pointer (some ⟨sp,0,none⟩)] w fun e w'=>e= .returned (.int .i64 (X.pl:Int))∧Below w.heap.size w w'
 owner: ∀w,Below w0.heap.size w0 w→ ∀{sp p g:Nat} {I:Nat→Prop} {c:Addr} {L:List Nat} {X:SG},Sg Int' w sp p g I c L X→
  Calls Tryz.prog 81 #[.pointer (some ⟨sp,0,none⟩)] w fun e w'=>e= .returned (.pointer (some c))∧Below w.heap.size w w'
 left: ∀w,Below w0.heap.size w0 w→ ∀{sp p g:Nat} {I:Nat→Prop} {c:Addr} {L:List Nat} {X:SG},Sg Int' w sp p g I c L X→
  Calls Tryz.prog 160 #[.pointer (some ⟨sp,0,none⟩)] w fun e w'=>e= .returned (.int .i64 (aj.left X.K:Int))∧Below w.heap.size w w'
 Pp: ∀w,∀{n:Int},dH n→Calls Tryz.prog 152 #[.pointer none, .int .i64 n] w fun e w'=>e= .returned (.tuple #[.pointer none, .int .i64 1])∧Below w.heap.size w w'
 Pq: ∀w,Below w0.heap.size w0 w→ ∀{sp p g:Nat} {I:Nat→Prop} {c:Addr} {L:List Nat} {X:SG} {n:Int},Sg Int' w sp p g I c L X→dH n→(n<0∨12≤n)→
  Calls Tryz.prog 152 #[.pointer (some ⟨sp,0,none⟩), .int .i64 n] w fun e w'=>e= .returned (.tuple #[.pointer none, .int .i64 2])∧Below w.heap.size w w'
 Ag: ∀w,Below w0.heap.size w0 w→ ∀{sp p g:Nat} {I:Nat→Prop} {c:Addr} {L:List Nat} {X:SG} {n:Nat},Sg Int' w sp p g I c L X→n<12→aj.low X.K (aM n)=none→
  Calls Tryz.prog 152 #[.pointer (some ⟨sp,0,none⟩), .int .i64 (n:Int)] w fun e w'=>e= .returned (.tuple #[.pointer none, .int .i64 4])∧Below w.heap.size w w'
 page: ∀w,Below w0.heap.size w0 w→ ∀{sp p g:Nat} {I:Nat→Prop} {c:Addr} {L:List Nat} {X:SG} {n a:Nat},Sg Int' w sp p g I c L X→n<12→aj.low X.K (aM n)=some a→
  Calls Tryz.prog 152 #[.pointer (some ⟨sp,0,none⟩), .int .i64 (n:Int)] w fun e w'=> ∃op pp I',e= .returned (.tuple #[.pointer (some ⟨op,0,none⟩), .int .i64 0])∧Sg Int' w' sp p g I' c L (X.add op pp (n:Int) a (aM n) (bE n) (aK n))∧w.heap.size≤op∧w.heap.size≤pp∧(∀b,I' b→I b∨w.heap.size≤b)∧aH I w w'
 U4: ∀w,Below w0.heap.size w0 w→ ∀{sp p g:Nat} {I:Nat→Prop} {c:Addr} {L:List Nat} {X:SG} {n:Int},Sg Int' w sp p g I c L X→dH n→(n<1∨15<n)→
  Calls Tryz.prog 151 #[.pointer (some ⟨sp,0,none⟩), .int .i64 n] w fun e w'=>e= .returned (.tuple #[.pointer none, .int .i64 2])∧Below w.heap.size w w'
 Fq: ∀w,Below w0.heap.size w0 w→ ∀{sp p g:Nat} {I:Nat→Prop} {c:Addr} {L:List Nat} {X:SG} {n:Nat},Sg Int' w sp p g I c L X→1≤n→n≤15→aj.low X.K n=none→
  Calls Tryz.prog 151 #[.pointer (some ⟨sp,0,none⟩), .int .i64 (n:Int)] w fun e w'=>e= .returned (.tuple #[.pointer none, .int .i64 4])∧Below w.heap.size w w'
 big: ∀w,Below w0.heap.size w0 w→ ∀{sp p g:Nat} {I:Nat→Prop} {c:Addr} {L:List Nat} {X:SG} {n a:Nat},Sg Int' w sp p g I c L X→1≤n→n≤15→aj.low X.K n=some a→
  Calls Tryz.prog 151 #[.pointer (some ⟨sp,0,none⟩), .int .i64 (n:Int)] w fun e w'=> ∃op pp I',e= .returned (.tuple #[.pointer (some ⟨op,0,none⟩), .int .i64 0])∧Sg Int' w' sp p g I' c L (X.add op pp (-1) a n 1 (n*1024))∧w.heap.size≤op∧w.heap.size≤pp∧(∀b,I' b→I b∨w.heap.size≤b)∧aH I w w'
 drop: ∀w,Below w0.heap.size w0 w→ ∀{sp p g:Nat} {I:Nat→Prop} {c:Addr} {L:List Nat} {X:SG} {n:Int},Sg Int' w sp p g I c L X→dH n→
  Calls Tryz.prog 159 #[.pointer (some ⟨sp,0,none⟩), .int .i64 n] w fun e w'=> ∃I',e= .returned (.int .i64 (iL X n).2)∧Sg Int' w' sp p g I' c L (iL X n).1∧(∀b,I' b→I b∨w.heap.size≤b)∧aH I w w'
 find: ∀w,Below w0.heap.size w0 w→ ∀{sp p g:Nat} {I:Nat→Prop} {c:Addr} {L:List Nat} {X:SG} {a:Nat},Sg Int' w sp p g I c L X→bM a→
  Calls Tryz.prog 67 #[.pointer (some ⟨sp,0,none⟩), .int .u64 (a:Int)] w fun e w'=>e= .returned (.tuple #[GI (bJ X a), .int .i64 (mq X a)])∧Below w.heap.size w w'
 pages: ∀w,Below w0.heap.size w0 w→ ∀{sp p g:Nat} {I:Nat→Prop} {c:Addr} {L:List Nat} {X:SG},Sg Int' w sp p g I c L X→
  Calls Tryz.prog 125 #[.pointer (some ⟨sp,0,none⟩)] w fun e w'=> ∃a k cap,e= .returned (.slice a k cap)∧Seq Elem.ptrs w' (.slice a k cap) (X.L.map fun o=>some ⟨o.op,0,none⟩)∧k≤cap∧cap≤9223372036854775807∧(∀b,In (.slice a k cap) b→w.heap.size≤b)∧Below w.heap.size w w'
 Vy: ∀w,Below w0.heap.size w0 w→ ∀{sp p g:Nat} {I:Nat→Prop} {c:Addr} {L:List Nat} {X:SG},Sg Int' w sp p g I c L X→X.ot≤1000000000→
  Calls Tryz.prog 89 #[.pointer (some c)] w fun e w'=>e= .returned (.tuple #[.int .u64 (X.ow:Int), .int .u64 (X.ot:Int)])∧Sg Int' w' sp p g I c L {X with oa:=X.oa+1}∧aH I w w'
 Py: ∀w,Below w0.heap.size w0 w→ ∀{sp p g y:Nat} {I:Nat→Prop} {c:Addr} {L:List Nat} {X:SG},Sg Int' w sp p g I c L X→X.ot≤1000000000→bM y→
  Calls Tryz.prog 82 #[.pointer (some c), .int .u64 (y:Int)] w fun e w'=>e= .returned (.tuple #[])∧Sg Int' w' sp p g I c L {X with ow:=y,ot:=X.ot+1,oa:=X.oa+1}∧aH I w w'
theorem aF.aJ.aside {L L' Y:List Nat} {S:PG} (h:aJ L S) (e:Agree L L' Y) (hY: ∀y∈Y,y+8≤S.f∨S.f+S.n*S.s≤y):aJ L' S:=by
 have ha: ∀b,bO S.f S.s S.made b→ ∀y∈Y,g_ y b:=fun b hb y hy=>by
  have h1:=hb.fits h.made (Nat.le_refl (S.f+S.n*S.s));obtain ⟨i,_,e⟩:=hb;have h2:=h.s16;have:=hY y hy;have VL:S.f≤b:=by omega
  unfold g_;omega
 exact ⟨h.f0,h.s16,h.n1,h.n2,by rw [e.1];exact h.fit,by rw [e.1];exact h.big,h.made,Chain.agree e h.cF fun b hb y hy=>ha b (h.FW b hb) y hy,Chain.agree e h.cG fun b hb y hy=>ha b (h.EB b hb) y hy,h.FW,h.EB,h.nd⟩
theorem dU.beside {w w':World} {pp p g:Nat} {L L':List Nat} {S:PG} {T:Nat→Prop} (h:dU w pp p g L S) (m:bC w' p g L') (u:aH T w w') (hT: ¬T pp):dU w' pp p g L' S:=⟨h.B.upd u hT,m,h.np,h.ng⟩
section
variable {w0 w w':World} {C:fH w0} {sp p g:Nat} {I:Nat→Prop} {c:Addr} {L L':List Nat} {X:SG}
theorem Sg.upd {T:Nat→Prop} (h:Sg C.Int' w sp p g I c L X) (u:aH T w w') (hT: ∀b,T b→ ¬SO p g I X b):Sg C.Int' w' sp p g I c L X where
 int:=C.upd h.int u fun b hb x=>hT b hb (.inr (.inr (.inl x)))
 mem:=h.mem.upd u (fun x=>hT _ x (.inl rfl)) (fun x=>hT _ x (.inr (.inl rfl)))
 len:=h.len
 pl:=h.pl
 good:=h.good
 own o ho:=(h.own o ho).upd u fun x=>hT _ x (.inr (.inr (.inr ⟨o,ho, .inl rfl⟩)))
 pg o ho:=⟨(h.pg o ho).1.upd u fun b hb x=>by
  refine hT b hb ?_;rcases x with rfl|rfl|rfl
  · exact .inr (.inr (.inr ⟨o,ho, .inr rfl⟩))
  · exact .inl rfl
  · exact .inr (.inl rfl),(h.pg o ho).2⟩
 ops:=h.ops
 pps:=h.pps
 sep:=h.sep
theorem Sg.grew (h:Sg C.Int' w sp p g I c L X) (hb:Below w.heap.size w w'):Sg C.Int' w' sp p g I c L X:=h.upd (ak hb) fun _ x=>x.elim
theorem Sg.drew (h:Sg C.Int' w sp p g I c L X):Sg C.Int' w.drew sp p g I c L X:=h.grew (Below.refl _ _).drew
theorem Sg.lt (h:Sg C.Int' w sp p g I c L X) {b:Nat} (hb:SO p g I X b):b<w.heap.size:=by
 rcases hb with rfl|rfl|hb|⟨o,ho,rfl|rfl⟩
 · exact h.mem.head.lt
 · exact h.mem.row.lt
 · exact (C.num h.int).2.2.2 b hb
 · exact (h.own o ho).lt
 · exact (h.pg o ho).1.lt
theorem Pj {l:List bY} (h:(l.map fun o=>o.pp).Nodup) {a b:bY} (ha:a∈l) (hb:b∈l) (e:a.pp=b.pp):a=b:=by
 induction l with
 |nil=>cases ha
 |cons x t ih=>
  rw [List.map_cons,List.nodup_cons] at h;rcases List.mem_cons.1 ha with rfl|ha2
  · rcases List.mem_cons.1 hb with rfl|hb2
    · rfl
    · exact absurd (List.mem_map.2 ⟨b,hb2,e.symm⟩) h.1
  · rcases List.mem_cons.1 hb with rfl|hb2
    · exact absurd (List.mem_map.2 ⟨a,ha2,e⟩) h.1
    · exact ih h.2 ha2 hb2
theorem Sg.page (h:Sg C.Int' w sp p g I c L X) {o:bY} (ho:o∈X.L):XR w o.pp p g (OO o.pp p g) ⟨o.pp,10,none⟩ L o.P:=⟨(h.pg o ho).1,(h.pg o ho).2.1,(h.pg o ho).2.2.1,(h.pg o ho).2.2.2,rfl,rfl⟩
theorem Sg.turn (h:Sg C.Int' w sp p g I c L X) {o:bY} (ho:o∈X.L) {Y:List Nat} {S:PG} (k:XR w' o.pp p g (OO o.pp p g) ⟨o.pp,10,none⟩ L' S) (u:aH (OO o.pp p g) w w') (ha:Agree L L' Y) (hY: ∀y∈Y,o.P.f≤y∧y+8≤o.P.f+o.P.n*o.P.s) (hs:S.f=o.P.f∧S.s=o.P.s∧S.n=o.P.n):Sg C.Int' w' sp p g I c L' (X.put o.pp S):=by
 obtain ⟨k1,k2,k3,k4,_,_⟩:=k;have hput: ∀x∈X.L,x.pp=o.pp→x=o:=fun x hx e=>Pj h.pps hx ho e;refine ⟨C.Gi (C.upd h.int u fun b hb x=> ?_),k1.mem,by rw [ha.1];exact h.len,h.pl,h.good.put fun x hx e=>by rw [hput x hx e];exact hs,fun x hx=> ?_,fun x hx=> ?_, ?_, ?_,h.sep.1,h.sep.2.1,fun x hx=> ?_⟩
 · rcases hb with rfl|rfl|rfl
   · exact (h.sep.2.2 o ho).2.1 x
   · exact h.sep.1 x
   · exact h.sep.2.1 x
 · obtain ⟨y,hy,rfl⟩:=put_mem.1 hx
   obtain ⟨e1,e2,e3,e4,e5⟩:=dL y o.pp S;have hb:=(h.own y hy).upd u (fun x=>by
    have:=h.sep.2.2 y hy;rcases x with e|e|e
    · exact this.2.2.2.2 o ho e
    · exact this.2.2.1 e
    · exact this.2.2.2.1 e)
   unfold Px;rw [e1,e2,e3,e4,e5];exact hb
 · obtain ⟨y,hy,rfl⟩:=put_mem.1 hx
   split
   · rename_i e
     have:=hput y hy e;subst this;exact ⟨k1,k2,k3,k4⟩
   · rename_i e
     have hne:y≠o:=fun x=>e (by rw [x]);have hp:=h.pg y hy;refine ⟨hp.1.beside k1.mem u (fun x=> ?_),hp.2.1.aside ha (fun z hz=> ?_),hp.2.2⟩
     · rcases x with x|x|x
       · exact e x
       · exact hp.1.np x
       · exact hp.1.ng x
     · have hzz:=hY z hz
       rcases h.good.apart ho hy (fun x=>hne x.symm) with x|x
       · left;omega
       · right;omega
 · show ((X.L.map _).map _).Nodup
   rw [List.map_map];have e:X.L.map ((fun o=>o.op)∘fun x=>if x.pp=o.pp then {x with P:=S} else x)=X.L.map fun o=>o.op:=List.map_congr_left fun x _=>(dL x o.pp S).2.2.1;rw [e];exact h.ops
 · show ((X.L.map _).map _).Nodup
   rw [List.map_map];have e:X.L.map ((fun o=>o.pp)∘fun x=>if x.pp=o.pp then {x with P:=S} else x)=X.L.map fun o=>o.pp:=List.map_congr_left fun x _=>(dL x o.pp S).2.2.2.1;rw [e];exact h.pps
 · obtain ⟨y,hy,rfl⟩:=put_mem.1 hx
   obtain ⟨e1,e2,e3,e4,e5⟩:=dL y o.pp S;have hsy:=h.sep.2.2 y hy;rw [e3,e4];refine ⟨hsy.1,hsy.2.1,hsy.2.2.1,hsy.2.2.2.1,fun z hz=> ?_⟩;obtain ⟨v,hv,rfl⟩:=put_mem.1 hz;rw [(dL v o.pp S).2.2.2.1];exact hsy.2.2.2.2 v hv
theorem SO.put {S:PG} {pp b:Nat}:SO p g I (X.put pp S) b↔SO p g I X b:=by
 unfold SO;constructor
 · rintro (h|h|h|⟨x,hx,h⟩)
   · exact .inl h
   · exact .inr (.inl h)
   · exact .inr (.inr (.inl h))
   · obtain ⟨y,hy,rfl⟩:=put_mem.1 hx
     obtain ⟨e1,e2,e3,e4,e5⟩:=dL y pp S;rw [e3,e4] at h;exact .inr (.inr (.inr ⟨y,hy,h⟩))
 · rintro (h|h|h|⟨y,hy,h⟩)
   · exact .inl h
   · exact .inr (.inl h)
   · exact .inr (.inr (.inl h))
   · refine .inr (.inr (.inr ⟨_,put_mem.2 ⟨y,hy,rfl⟩, ?_⟩))
     obtain ⟨e1,e2,e3,e4,e5⟩:=dL y pp S;rw [e3,e4];exact h
end
end Go.Proofs.YtpibbcnkgdmcbaaGreatDoor
