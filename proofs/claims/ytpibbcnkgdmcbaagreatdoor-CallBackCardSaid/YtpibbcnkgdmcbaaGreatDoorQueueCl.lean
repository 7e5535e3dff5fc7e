/- What the laws of layer 11 need of the program's queues (to be proved of the code that landed), and a queue of a law's own. -/
import Derived.Test.YtpibbcnkgdmcbaaGreatDoorElems
import Derived.Test.YtpibbcnkgdmcbaaGreatDoorQueueMath
set_option linter.unusedVariables false
namespace Go.Proofs.YtpibbcnkgdmcbaaGreatDoor
open Go.RowKit aB
abbrev Vu:Array Value:= #[.pointer none]
structure iF (w:World) (v:Value) (l:List Int):Prop where
 seq:Seq Elem.ints w v l
 cap: ∃a n c,v= .slice a n c∧n≤c∧c≤9223372036854775807
 wf: ∀x∈l,gy x
section
variable {w w':World} {v:Value} {l:List Int} {T:Nat→Prop}
theorem iF.upd (h:iF w v l) (u:aH T w w') (hn: ∀k,In v k→ ¬T k):iF w' v l:=⟨h.seq.upd u hn,h.cap,h.wf⟩
theorem iF.grew (h:iF w v l) (hb:Below w.heap.size w w'):iF w' v l:=h.upd (ak hb) fun _ _=>id
theorem iF.out (h:iF w v l): ∃a c,v= .slice a l.length c∧l.length≤c∧c≤9223372036854775807:=by
 obtain ⟨a,n,c,rfl,h1,h2⟩:=h.cap;have:=h.seq.len;subst this;exact ⟨a,c,rfl,h1,h2⟩
theorem iF.nil (w:World):iF w (.slice none 0 0) []:=⟨Seq.nil w,⟨_,_,_,rfl,Nat.le_refl _,by decide⟩,fun x h=>by cases h⟩
theorem iF.made (w:World) (t:TypeId) (l:List Int) (cs:Array Value) (hcs:cs=(Elem.ints.all l).toArray) (n g:Nat) (hn:n=l.length) (hg:g=w.heap.size) (h63:n≤9223372036854775807) (hw: ∀x∈l,gy x):iF (w.alloc (.cells cs t)) (.slice (some ⟨g,0,none⟩) n n) l:=by
 subst hcs hn hg;exact ⟨Seq.new w t l _,⟨_,_,_,rfl,Nat.le_refl _,h63⟩,hw⟩
end
def CY (v:Value) (l:List Int) (T:Nat→Prop):Prop:=l= []∨ ∀k,In v k→ ¬T k
theorem CY.of {v:Value} {l:List Int} {T:Nat→Prop} (h: ∀k,In v k→ ¬T k):CY v l T:= .inr h
theorem iF.Dh {w w':World} {v:Value} {l:List Int} {T:Nat→Prop} (h:iF w v l) (u:aH T w w') (hn:CY v l T):iF w' v l:=by
 rcases hn with rfl|hn
 · refine ⟨?_,h.cap,h.wf⟩
   obtain ⟨a,c,rfl,_,_⟩:=h.out;rcases h.seq with ⟨b,off,cap,e,_⟩|⟨_,a',c',e,hc⟩
   · exact .inl ⟨b,off,cap,e,fun j u hj=>by simp [Elem.all] at hj⟩
   · exact .inr ⟨rfl,a',c',e,hc⟩
 · exact h.upd u hn
theorem iF.lt {w:World} {v:Value} {l:List Int} (h:iF w v l):l= []∨ ∀k,In v k→k<w.heap.size:=by
 cases l with
 |nil=>exact .inl rfl
 |cons x t=>
  obtain ⟨a,c,rfl,_,_⟩:=h.out;obtain ⟨b,off,rfl,hc⟩:=h.seq.elem (i:=0) (x:=x) rfl;refine .inr fun k hk=> ?_;have e:=nu hk;subst e;exact World.block_lt_of_cell? w _ (hc 0 (.int .i64 x) rfl)
theorem CY.step {w:World} {v:Value} {l:List Int} {O O':Nat→Prop} (a:CY v l O) (h:iF w v l) (hO: ∀k,O' k→O k∨w.heap.size≤k):CY v l O':=by
 rcases h.lt with x|x
 · exact .inl x
 · rcases a with y|y
   · exact .inl y
   · exact .inr fun k hk ho=>by
      rcases hO k ho with z|z
      · exact y k hk z
      · have:=x k hk;omega
def Old (w:World) (v:Value) (l:List Int):Prop:=l= []∨ ∀k,In v k→k<w.heap.size
theorem Old.apt {w:World} {v:Value} {l:List Int} {T:Nat→Prop} (h:Old w v l) (hT: ∀k,T k→w.heap.size≤k):CY v l T:=h.imp id fun h k hi ht=>by
 have:=h k hi;have:=hT k ht;omega
theorem pz.old {w:World} {v:Value} {l:List Int} (h:pz w .i64 v l):Old w v l:=by
 obtain ⟨a,cap,rfl,h1,h2,h3,h4,h5⟩:=h;by_cases h0:0<l.length
 · obtain ⟨b,off,rfl,hc⟩:=h4 0 h0
   refine .inr fun k hk=> ?_;have e:=nu hk;subst e;exact World.block_lt_of_cell? w _ hc
 · exact .inl (List.length_eq_zero_iff.1 (by omega))
abbrev many:Nat:=1000000
structure QuC (w0:World) where
 Qu:World→Nat→(Nat→Prop)→QR→Prop
 upd: ∀{w:World} {b:Nat} {O:Nat→Prop} {S:QR} {w':World} {T:Nat→Prop},Qu w b O S→aH T w w'→(∀k,T k→ ¬O k)→Qu w' b O S
 num: ∀{w:World} {b:Nat} {O:Nat→Prop} {S:QR},Qu w b O S→O b∧(∀k,O k→k<w.heap.size)∧ ∀x∈S.all,gy x
 zero: ∀w:World,Qu (w.alloc (.cells Vu 110)) w.heap.size (fun k=>k=w.heap.size) q0
 push: ∀w,Below w0.heap.size w0 w→ ∀{b O S v l},Qu w b O S→bZ S→iF w v l→CY v l O→S.all.length+l.length≤many→
  Calls Tryz.prog 153 #[.pointer (some ⟨b,0,none⟩),v] w fun e w'=>e= .returned (.int .i64 (bK S l).2)∧ ∃O',Qu w' b O' (bK S l).1∧(∀k,O' k→O k∨w.heap.size≤k)∧aH O w w'
 Pf: ∀w,Below w0.heap.size w0 w→Calls Tryz.prog 153 #[.pointer none, .slice none 0 0] w fun e w'=>e= .returned (.int .i64 1)∧Below w.heap.size w w'
 remove: ∀w,Below w0.heap.size w0 w→ ∀{b O S v l},Qu w b O S→bZ S→iF w v l→CY v l O→S.all.length+l.length≤many→
  Calls Tryz.prog 113 #[.pointer (some ⟨b,0,none⟩),v] w fun e w'=>e= .returned (.int .i64 (aX S l).2)∧ ∃O',Qu w' b O' (aX S l).1∧(∀k,O' k→O k∨w.heap.size≤k)∧aH O w w'
 fill: ∀w,Below w0.heap.size w0 w→ ∀{b O S} {x:Int},Qu w b O S→bZ S→gy x→S.all.length≤many→
  Calls Tryz.prog 115 #[.pointer (some ⟨b,0,none⟩), .int .i64 x] w fun e w'=>e= .returned (.int .i64 (eO S x).2)∧ ∃O',Qu w' b O' (eO S x).1∧(∀k,O' k→O k∨w.heap.size≤k)∧aH O w w'
 wake: ∀w,Below w0.heap.size w0 w→ ∀{b O S} {x:Int},Qu w b O S→bZ S→gy x→S.all.length≤many→
  Calls Tryz.prog 157 #[.pointer (some ⟨b,0,none⟩), .int .i64 x] w fun e w'=>e= .returned (.int .i64 (dK S x).2)∧ ∃O',Qu w' b O' (dK S x).1∧(∀k,O' k→O k∨w.heap.size≤k)∧aH O w w'
 ready: ∀w,Below w0.heap.size w0 w→ ∀{b O S},Qu w b O S→bZ S→S.all.length≤many→
  Calls Tryz.prog 111 #[.pointer (some ⟨b,0,none⟩)] w fun e w'=> ∃v,e= .returned v∧(iF w' v S.R∧Vec Elem.ints w' v S.R)∧(∀k,In v k→w.heap.size≤k)∧Below w.heap.size w w'
 all: ∀w,Below w0.heap.size w0 w→ ∀{b O S},Qu w b O S→bZ S→S.all.length≤many→
  Calls Tryz.prog 101 #[.pointer (some ⟨b,0,none⟩)] w fun e w'=> ∃v,e= .returned v∧(iF w' v S.all∧Vec Elem.ints w' v S.all)∧(∀k,In v k→w.heap.size≤k)∧Below w.heap.size w w'
section
variable {w:World} {C:QuC w} {b:Nat} {O O':Nat→Prop} {S S':QR} {w' w2:World} {v:Value} {l:List Int}
structure OQ (C:QuC w) (b:Nat) (O:Nat→Prop) (S:QR) (w':World):Prop where
 q:C.Qu w' b O S
 good:bZ S
 below:Below w.heap.size w w'
 lo: ∀k,O k→w.heap.size≤k
theorem OQ.upd {T:Nat→Prop} (h:OQ C b O S w') (u:aH T w' w2) (hT: ∀k,T k→ ¬O k∧w.heap.size≤k):OQ C b O S w2:=
 ⟨C.upd h.q u fun k hk=>(hT k hk).1,h.good,h.below.trans (u.below (fun k hk=>(hT k hk).2) h.below.size),h.lo⟩
theorem OQ.grew (h:OQ C b O S w') (hb:Below w'.heap.size w' w2):OQ C b O S w2:=h.upd (ak hb) fun k x=>x.elim
theorem OQ.alloc (h:OQ C b O S w') (o:Obj):OQ C b O S (w'.alloc o):=h.grew ((Below.refl _ _).alloc (Nat.le_refl _) o)
theorem OQ.lt (h:OQ C b O S w') {k:Nat} (hk:O k):k<w'.heap.size:=(C.num h.q).2.1 k hk
theorem OQ.i64 (h:OQ C b O S w'): ∀x∈S.all,gy x:=(C.num h.q).2.2
theorem OQ.turn (h:OQ C b O S w') (k:C.Qu w2 b O' S') (g:bZ S') (hO: ∀c,O' c→O c∨w'.heap.size≤c) (u:aH O w' w2):OQ C b O' S' w2:=
 ⟨k,g,h.below.trans (u.below (fun c hc=>h.lo c hc) h.below.size),fun c hc=>by
  rcases hO c hc with x|x
  · exact h.lo c x
  · exact Nat.le_trans h.below.size x⟩
theorem OQ.old (h:OQ C b O S w') (hk:Old w v l):CY v l O:=hk.apt h.lo
theorem OQ.new (h:OQ C b O S w') (hk: ∀k,In v k→w'.heap.size≤k):CY v l O:= .inr fun k hi ho=>by
 have:=h.lt ho;have:=hk k hi;omega
def aer (C:QuC w) (b:Nat) (S:QR) (v:Value) (l:List Int) (n:Nat) (i:Value) (wr:World):Prop:=
 ∃(t:Nat) (O:Nat→Prop),t≤n∧i= .int .i64 (t:Int)∧OQ C b O S wr∧iF wr v l∧CY v l O
theorem iF.at {w:World} {a:Option Addr} {n c:Nat} {l:List Int} (h:iF w (.slice a n c) l) {t:Nat} (ht:t<l.length): ∃b off y,a=some ⟨b,off,none⟩∧l[t]? =some y∧y∈l∧gy y∧w.cell? ⟨b,off+t,none⟩=some (.int .i64 y):=by
 have hy:l[t]? =some l[t]:=List.getElem?_eq_getElem ht;obtain ⟨b,off,ea,hc⟩:=h.seq.elem hy;have h0:=hc 0 (.int .i64 l[t]) rfl;exact ⟨b,off,l[t],ea,hy,List.mem_of_getElem? hy,h.wf _ (List.mem_of_getElem? hy),by simpa [Elem.ints] using h0⟩
end
end Go.Proofs.YtpibbcnkgdmcbaaGreatDoor
