/- (wip/heap: as wip/seg's, over a memory of whatever size.) What the laws of layer 12 need of the program's segments (to be proved of the code that landed): what a segment holds of its own is told by a predicate of the landed code's own; its pages are the landed pages. -/
import Derived.Test.YtippfeplogkaiaaGreatDoorPages12
import Derived.Test.YtippfeplogkaiaaGreatDoorSegm12
namespace Go.Proofs.YtippfeplogkaiaaGreatDoor
open Go.RowKit ListMath PageMath GeoMath SegMath ClassMath
set_option linter.unusedVariables false
abbrev IntT:=World→(sp p:Nat)→(Nat→Prop)→Addr→SG→Prop
def ownA (o:OwR):Array Value:= #[.pointer (some ⟨o.pp,0,none⟩), .int .i64 o.cls, .int .i64 (o.lo:Int), .int .i64 (o.wd:Int)]
structure Sg (Int':IntT) (w:World) (sp p g:Nat) (I:Nat→Prop) (c:Addr) (L:List Nat) (X:SG):Prop where
  int:Int' w sp p I c X
  mem:IsMem w p g L
  len:(X.pl+1)*16384≤L.length∧L.length≤1048576
  pl:X.pl≤63
  good:GoodG X
  own: ∀o∈X.L,Blk w o.op 187 (ownA o)
  pg: ∀o∈X.L,RPg w o.pp p g L o.P∧GoodP L o.P∧AddP o.P∧o.P.cw≤18446744073709551615
  ops:(X.L.map fun o=>o.op).Nodup
  pps:(X.L.map fun o=>o.pp).Nodup
  sep: ¬I p∧ ¬I g∧ ∀o∈X.L,¬I o.op∧ ¬I o.pp∧o.op≠p∧o.op≠g∧ ∀x∈X.L,o.op≠x.pp
def SO (p g:Nat) (I:Nat→Prop) (X:SG) (b:Nat):Prop:=b=p∨b=g∨I b∨ ∃o∈X.L,b=o.op∨b=o.pp
def ptrO (o:Option OwR):Value:= .pointer (o.map fun o=>⟨o.op,0,none⟩)
structure SgC (w0:World) where
  Int':IntT
  skel: ∀{w sp p I c X} {pp:Nat} {S:PG},Int' w sp p I c X→Int' w sp p I c (X.put pp S)
  upd: ∀{w sp p I c X} {w':World} {T:Nat→Prop},Int' w sp p I c X→Upd T w w'→(∀b,T b→ ¬I b)→Int' w' sp p I c X
  num: ∀{w sp p I c X},Int' w sp p I c X→I sp∧I c.block∧X.ow≤18446744073709551615∧ ∀b,I b→b<w.heap.size
  ownB: ∀{w sp p I c X},Int' w sp p I c X→ ∃t cs,Blk w c.block t cs
  spB: ∀{w sp p I c X},Int' w sp p I c X→ ∃t cs,Blk w sp t cs
  new: ∀w,Below w0.heap.size w0 w→ ∀{p g pl:Nat} {L:List Nat},IsMem w p g L→L.length≤1048576→(pl+1)*16384≤L.length→
    Calls Tryz.prog 227 #[.pointer (some ⟨p,0,none⟩), .int .i64 (pl:Int)] w fun e w'=> ∃sp c I,e= .returned (.tuple #[.pointer (some ⟨sp,0,none⟩), .int .i64 0])∧Int' w' sp p I c (newSG pl)∧(∀b,I b→w.heap.size≤b)∧Below w.heap.size w w'
  new_bad: ∀w,Below w0.heap.size w0 w→ ∀{p g:Nat} {L:List Nat} {pl:Int},IsMem w p g L→L.length≤1048576→I64B pl→(pl<0∨(L.length:Int)<(pl+1)*16384)→
    Calls Tryz.prog 227 #[.pointer (some ⟨p,0,none⟩), .int .i64 pl] w fun e w'=>e= .returned (.tuple #[.pointer none, .int .i64 2])∧Below w.heap.size w w'
  place: ∀w,Below w0.heap.size w0 w→ ∀{sp p g:Nat} {I:Nat→Prop} {c:Addr} {L:List Nat} {X:SG},Sg Int' w sp p g I c L X→
    Calls Tryz.prog 195 #[.pointer (some ⟨sp,0,none⟩)] w fun e w'=>e= .returned (.int .i64 (X.pl:Int))∧Below w.heap.size w w'
  owner: ∀w,Below w0.heap.size w0 w→ ∀{sp p g:Nat} {I:Nat→Prop} {c:Addr} {L:List Nat} {X:SG},Sg Int' w sp p g I c L X→
    Calls Tryz.prog 181 #[.pointer (some ⟨sp,0,none⟩)] w fun e w'=>e= .returned (.pointer (some c))∧Below w.heap.size w w'
  left: ∀w,Below w0.heap.size w0 w→ ∀{sp p g:Nat} {I:Nat→Prop} {c:Addr} {L:List Nat} {X:SG},Sg Int' w sp p g I c L X→
    Calls Tryz.prog 261 #[.pointer (some ⟨sp,0,none⟩)] w fun e w'=>e= .returned (.int .i64 (MarkMath.left X.K:Int))∧Below w.heap.size w w'
  page_nil: ∀w,∀{n:Int},I64B n→Calls Tryz.prog 254 #[.pointer none, .int .i64 n] w fun e w'=>e= .returned (.tuple #[.pointer none, .int .i64 1])∧Below w.heap.size w w'
  page_bad: ∀w,Below w0.heap.size w0 w→ ∀{sp p g:Nat} {I:Nat→Prop} {c:Addr} {L:List Nat} {X:SG} {n:Int},Sg Int' w sp p g I c L X→I64B n→(n<0∨12≤n)→
    Calls Tryz.prog 254 #[.pointer (some ⟨sp,0,none⟩), .int .i64 n] w fun e w'=>e= .returned (.tuple #[.pointer none, .int .i64 2])∧Below w.heap.size w w'
  page_full: ∀w,Below w0.heap.size w0 w→ ∀{sp p g:Nat} {I:Nat→Prop} {c:Addr} {L:List Nat} {X:SG} {n:Nat},Sg Int' w sp p g I c L X→n<12→MarkMath.low X.K (slicesAt n)=none→
    Calls Tryz.prog 254 #[.pointer (some ⟨sp,0,none⟩), .int .i64 (n:Int)] w fun e w'=>e= .returned (.tuple #[.pointer none, .int .i64 4])∧Below w.heap.size w w'
  page: ∀w,Below w0.heap.size w0 w→ ∀{sp p g:Nat} {I:Nat→Prop} {c:Addr} {L:List Nat} {X:SG} {n a:Nat},Sg Int' w sp p g I c L X→n<12→MarkMath.low X.K (slicesAt n)=some a→
    Calls Tryz.prog 254 #[.pointer (some ⟨sp,0,none⟩), .int .i64 (n:Int)] w fun e w'=> ∃op pp I',e= .returned (.tuple #[.pointer (some ⟨op,0,none⟩), .int .i64 0])∧Sg Int' w' sp p g I' c L (X.add op pp (n:Int) a (slicesAt n) (blocksAt n) (sizeAt n))∧w.heap.size≤op∧w.heap.size≤pp∧(∀b,I' b→I b∨w.heap.size≤b)∧Upd I w w'
  big_bad: ∀w,Below w0.heap.size w0 w→ ∀{sp p g:Nat} {I:Nat→Prop} {c:Addr} {L:List Nat} {X:SG} {n:Int},Sg Int' w sp p g I c L X→I64B n→(n<1∨15<n)→
    Calls Tryz.prog 253 #[.pointer (some ⟨sp,0,none⟩), .int .i64 n] w fun e w'=>e= .returned (.tuple #[.pointer none, .int .i64 2])∧Below w.heap.size w w'
  big_full: ∀w,Below w0.heap.size w0 w→ ∀{sp p g:Nat} {I:Nat→Prop} {c:Addr} {L:List Nat} {X:SG} {n:Nat},Sg Int' w sp p g I c L X→1≤n→n≤15→MarkMath.low X.K n=none→
    Calls Tryz.prog 253 #[.pointer (some ⟨sp,0,none⟩), .int .i64 (n:Int)] w fun e w'=>e= .returned (.tuple #[.pointer none, .int .i64 4])∧Below w.heap.size w w'
  big: ∀w,Below w0.heap.size w0 w→ ∀{sp p g:Nat} {I:Nat→Prop} {c:Addr} {L:List Nat} {X:SG} {n a:Nat},Sg Int' w sp p g I c L X→1≤n→n≤15→MarkMath.low X.K n=some a→
    Calls Tryz.prog 253 #[.pointer (some ⟨sp,0,none⟩), .int .i64 (n:Int)] w fun e w'=> ∃op pp I',e= .returned (.tuple #[.pointer (some ⟨op,0,none⟩), .int .i64 0])∧Sg Int' w' sp p g I' c L (X.add op pp (-1) a n 1 (n*1024))∧w.heap.size≤op∧w.heap.size≤pp∧(∀b,I' b→I b∨w.heap.size≤b)∧Upd I w w'
  drop: ∀w,Below w0.heap.size w0 w→ ∀{sp p g:Nat} {I:Nat→Prop} {c:Addr} {L:List Nat} {X:SG} {n:Int},Sg Int' w sp p g I c L X→I64B n→
    Calls Tryz.prog 260 #[.pointer (some ⟨sp,0,none⟩), .int .i64 n] w fun e w'=> ∃I',e= .returned (.int .i64 (dropE X n).2)∧Sg Int' w' sp p g I' c L (dropE X n).1∧(∀b,I' b→I b∨w.heap.size≤b)∧Upd I w w'
  find: ∀w,Below w0.heap.size w0 w→ ∀{sp p g:Nat} {I:Nat→Prop} {c:Addr} {L:List Nat} {X:SG} {a:Nat},Sg Int' w sp p g I c L X→U64B a→
    Calls Tryz.prog 144 #[.pointer (some ⟨sp,0,none⟩), .int .u64 (a:Int)] w fun e w'=>e= .returned (.tuple #[ptrO (findO X a), .int .i64 (findE X a)])∧Below w.heap.size w w'
  pages: ∀w,Below w0.heap.size w0 w→ ∀{sp p g:Nat} {I:Nat→Prop} {c:Addr} {L:List Nat} {X:SG},Sg Int' w sp p g I c L X→
    Calls Tryz.prog 226 #[.pointer (some ⟨sp,0,none⟩)] w fun e w'=> ∃a k cap,e= .returned (.slice a k cap)∧Seq Elem.ptrs w' (.slice a k cap) (X.L.map fun o=>some ⟨o.op,0,none⟩)∧k≤cap∧cap≤9223372036854775807∧(∀b,In (.slice a k cap) b→w.heap.size≤b)∧Below w.heap.size w w'
  oload: ∀w,Below w0.heap.size w0 w→ ∀{sp p g:Nat} {I:Nat→Prop} {c:Addr} {L:List Nat} {X:SG},Sg Int' w sp p g I c L X→X.ot≤1000000000→
    Calls Tryz.prog 72 #[.pointer (some c)] w fun e w'=>e= .returned (.tuple #[.int .u64 (X.ow:Int), .int .u64 (X.ot:Int)])∧Sg Int' w' sp p g I c L {X with oa:=X.oa+1}∧Upd I w w'
  ostore: ∀w,Below w0.heap.size w0 w→ ∀{sp p g y:Nat} {I:Nat→Prop} {c:Addr} {L:List Nat} {X:SG},Sg Int' w sp p g I c L X→X.ot≤1000000000→U64B y→
    Calls Tryz.prog 182 #[.pointer (some c), .int .u64 (y:Int)] w fun e w'=>e= .returned (.tuple #[])∧Sg Int' w' sp p g I c L {X with ow:=y,ot:=X.ot+1,oa:=X.oa+1}∧Upd I w w'
theorem PageMath.GoodP.aside {L L' Y:List Nat} {S:PG} (h:GoodP L S) (e:Agree L L' Y) (hY: ∀y∈Y,y+8≤S.f∨S.f+S.n*S.s≤y):GoodP L' S:=by
  have ha: ∀b,IsBlk S.f S.s S.made b→ ∀y∈Y,Apart8 y b:=fun b hb y hy=>by
    have h1:=hb.fits h.made (Nat.le_refl (S.f+S.n*S.s))
    obtain ⟨i,_,e⟩:=hb
    have h2:=h.s16
    have:=hY y hy
    have hfb:S.f≤b:=by omega
    unfold Apart8;omega
  exact ⟨h.f0,h.s16,h.n1,h.n2,by rw [e.1];exact h.fit,by rw [e.1];exact h.big,h.made,Chain.agree e h.cF fun b hb y hy=>ha b (h.inF b hb) y hy,Chain.agree e h.cG fun b hb y hy=>ha b (h.inG b hb) y hy,h.inF,h.inG,h.nd⟩
theorem RPg.beside {w w':World} {pp p g:Nat} {L L':List Nat} {S:PG} {T:Nat→Prop} (h:RPg w pp p g L S) (m:IsMem w' p g L') (u:Upd T w w') (hT: ¬T pp):RPg w' pp p g L' S:=⟨h.B.upd u hT,m,h.np,h.ng⟩
section
variable {w0 w w':World} {C:SgC w0} {sp p g:Nat} {I:Nat→Prop} {c:Addr} {L L':List Nat} {X:SG}
theorem Sg.upd {T:Nat→Prop} (h:Sg C.Int' w sp p g I c L X) (u:Upd T w w') (hT: ∀b,T b→ ¬SO p g I X b):Sg C.Int' w' sp p g I c L X where
  int:=C.upd h.int u fun b hb x=>hT b hb (.inr (.inr (.inl x)))
  mem:=h.mem.upd u (fun x=>hT _ x (.inl rfl)) (fun x=>hT _ x (.inr (.inl rfl)))
  len:=h.len
  pl:=h.pl
  good:=h.good
  own o ho:=(h.own o ho).upd u fun x=>hT _ x (.inr (.inr (.inr ⟨o,ho, .inl rfl⟩)))
  pg o ho:=⟨(h.pg o ho).1.upd u fun b hb x=>by
    refine hT b hb ?_
    rcases x with rfl|rfl|rfl
    · exact .inr (.inr (.inr ⟨o,ho, .inr rfl⟩))
    · exact .inl rfl
    · exact .inr (.inl rfl),(h.pg o ho).2⟩
  ops:=h.ops
  pps:=h.pps
  sep:=h.sep
theorem Sg.grew (h:Sg C.Int' w sp p g I c L X) (hb:Below w.heap.size w w'):Sg C.Int' w' sp p g I c L X:=h.upd (updFalse_of hb) fun _ x=>x.elim
theorem Sg.drew (h:Sg C.Int' w sp p g I c L X):Sg C.Int' w.drew sp p g I c L X:=h.grew (Below.refl _ _).drew
theorem Sg.lt (h:Sg C.Int' w sp p g I c L X) {b:Nat} (hb:SO p g I X b):b<w.heap.size:=by
  rcases hb with rfl|rfl|hb|⟨o,ho,rfl|rfl⟩
  · exact h.mem.head.lt
  · exact h.mem.row.lt
  · exact (C.num h.int).2.2.2 b hb
  · exact (h.own o ho).lt
  · exact (h.pg o ho).1.lt
theorem pp_one {l:List OwR} (h:(l.map fun o=>o.pp).Nodup) {a b:OwR} (ha:a∈l) (hb:b∈l) (e:a.pp=b.pp):a=b:=by
  induction l with
  |nil=>cases ha
  | cons x t ih=>
    rw [List.map_cons,List.nodup_cons] at h
    rcases List.mem_cons.1 ha with rfl|ha2
    · rcases List.mem_cons.1 hb with rfl|hb2
      · rfl
      · exact absurd (List.mem_map.2 ⟨b,hb2,e.symm⟩) h.1
    · rcases List.mem_cons.1 hb with rfl|hb2
      · exact absurd (List.mem_map.2 ⟨a,ha2,e⟩) h.1
      · exact ih h.2 ha2 hb2
theorem Sg.page (h:Sg C.Int' w sp p g I c L X) {o:OwR} (ho:o∈X.L):PgS w o.pp p g (OO o.pp p g) ⟨o.pp,10,none⟩ L o.P:=⟨(h.pg o ho).1,(h.pg o ho).2.1,(h.pg o ho).2.2.1,(h.pg o ho).2.2.2,rfl,rfl⟩
theorem Sg.turn (h:Sg C.Int' w sp p g I c L X) {o:OwR} (ho:o∈X.L) {Y:List Nat} {S:PG} (k:PgS w' o.pp p g (OO o.pp p g) ⟨o.pp,10,none⟩ L' S) (u:Upd (OO o.pp p g) w w') (ha:Agree L L' Y) (hY: ∀y∈Y,o.P.f≤y∧y+8≤o.P.f+o.P.n*o.P.s) (hs:S.f=o.P.f∧S.s=o.P.s∧S.n=o.P.n):Sg C.Int' w' sp p g I c L' (X.put o.pp S):=by
  obtain ⟨k1,k2,k3,k4,_,_⟩:=k
  have hput: ∀x∈X.L,x.pp=o.pp→x=o:=fun x hx e=>pp_one h.pps hx ho e
  refine ⟨C.skel (C.upd h.int u fun b hb x=> ?_),k1.mem,by rw [ha.1];exact h.len,h.pl,h.good.put fun x hx e=>by rw [hput x hx e];exact hs,fun x hx=> ?_,fun x hx=> ?_, ?_, ?_,h.sep.1,h.sep.2.1,fun x hx=> ?_⟩
  · rcases hb with rfl|rfl|rfl
    · exact (h.sep.2.2 o ho).2.1 x
    · exact h.sep.1 x
    · exact h.sep.2.1 x
  · obtain ⟨y,hy,rfl⟩:=put_mem.1 hx
    obtain ⟨e1,e2,e3,e4,e5⟩:=put_lo y o.pp S
    have hb:=(h.own y hy).upd u (fun x=>by
      have:=h.sep.2.2 y hy
      rcases x with e|e|e
      · exact this.2.2.2.2 o ho e
      · exact this.2.2.1 e
      · exact this.2.2.2.1 e)
    unfold ownA
    rw [e1,e2,e3,e4,e5]
    exact hb
  · obtain ⟨y,hy,rfl⟩:=put_mem.1 hx
    split
    · rename_i e
      have:=hput y hy e
      subst this
      exact ⟨k1,k2,k3,k4⟩
    · rename_i e
      have hne:y≠o:=fun x=>e (by rw [x])
      have hp:=h.pg y hy
      refine ⟨hp.1.beside k1.mem u (fun x=> ?_),hp.2.1.aside ha (fun z hz=> ?_),hp.2.2⟩
      · rcases x with x|x|x
        · exact e x
        · exact hp.1.np x
        · exact hp.1.ng x
      · have hzz:=hY z hz
        rcases h.good.apart ho hy (fun x=>hne x.symm) with x|x
        · left;omega
        · right;omega
  · show ((X.L.map _).map _).Nodup
    rw [List.map_map]
    have e:X.L.map ((fun o=>o.op)∘fun x=>if x.pp=o.pp then {x with P:=S} else x)=X.L.map fun o=>o.op:=List.map_congr_left fun x _=>(put_lo x o.pp S).2.2.1
    rw [e];exact h.ops
  · show ((X.L.map _).map _).Nodup
    rw [List.map_map]
    have e:X.L.map ((fun o=>o.pp)∘fun x=>if x.pp=o.pp then {x with P:=S} else x)=X.L.map fun o=>o.pp:=List.map_congr_left fun x _=>(put_lo x o.pp S).2.2.2.1
    rw [e];exact h.pps
  · obtain ⟨y,hy,rfl⟩:=put_mem.1 hx
    obtain ⟨e1,e2,e3,e4,e5⟩:=put_lo y o.pp S
    have hsy:=h.sep.2.2 y hy
    rw [e3,e4]
    refine ⟨hsy.1,hsy.2.1,hsy.2.2.1,hsy.2.2.2.1,fun z hz=> ?_⟩
    obtain ⟨v,hv,rfl⟩:=put_mem.1 hz
    rw [(put_lo v o.pp S).2.2.2.1]
    exact hsy.2.2.2.2 v hv
theorem SO.put {S:PG} {pp b:Nat}:SO p g I (X.put pp S) b↔SO p g I X b:=by
  unfold SO
  constructor
  · rintro (h|h|h|⟨x,hx,h⟩)
    · exact .inl h
    · exact .inr (.inl h)
    · exact .inr (.inr (.inl h))
    · obtain ⟨y,hy,rfl⟩:=put_mem.1 hx
      obtain ⟨e1,e2,e3,e4,e5⟩:=put_lo y pp S
      rw [e3,e4] at h
      exact .inr (.inr (.inr ⟨y,hy,h⟩))
  · rintro (h|h|h|⟨y,hy,h⟩)
    · exact .inl h
    · exact .inr (.inl h)
    · exact .inr (.inr (.inl h))
    · refine .inr (.inr (.inr ⟨_,put_mem.2 ⟨y,hy,rfl⟩, ?_⟩))
      obtain ⟨e1,e2,e3,e4,e5⟩:=put_lo y pp S
      rw [e3,e4];exact h
end
end Go.Proofs.YtippfeplogkaiaaGreatDoor
