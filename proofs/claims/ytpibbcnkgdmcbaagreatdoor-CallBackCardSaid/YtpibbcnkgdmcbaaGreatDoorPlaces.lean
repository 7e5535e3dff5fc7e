/- What is written of a block's cells, others kept; a list's two cells at any place. Over whatever program. -/
import Derived.Test.YtpibbcnkgdmcbaaGreatDoorElems
set_option linter.unusedVariables false
namespace Go.Proofs.YtpibbcnkgdmcbaaGreatDoor
open Go.RowKit
structure dA (S:Nat→Prop) (C:Nat→Nat→Prop) (w w':World):Prop where
 upd:aH (fun b=>S b∨ ∃i,C b i) w w'
 blk: ∀b,¬S b→ ∀t cs,aV w b t cs→ ∃cs',aV w' b t cs'∧cs'.size=cs.size∧ ∀i,¬C b i→cs'[i]? =cs[i]?
theorem dA.refl (S:Nat→Prop) (C:Nat→Nat→Prop) (w:World):dA S C w w:=⟨aH.refl _ w,fun b _ t cs h=>⟨cs,h,rfl,fun _ _=>rfl⟩⟩
theorem dA.trans {S:Nat→Prop} {C:Nat→Nat→Prop} {a b c:World} (h:dA S C a b) (k:dA S C b c):dA S C a c:=by
 refine ⟨h.upd.trans k.upd,fun x hx t cs hb=> ?_⟩;obtain ⟨c1,b1,s1,e1⟩:=h.blk x hx t cs hb;obtain ⟨c2,b2,s2,e2⟩:=k.blk x hx t c1 b1;exact ⟨c2,b2,s2.trans s1,fun i hi=>(e2 i hi).trans (e1 i hi)⟩
theorem dA.mono {S S':Nat→Prop} {C C':Nat→Nat→Prop} {w w':World} (h:dA S C w w') (hs: ∀b,S b→S' b) (hc: ∀b i,C b i→S' b∨C' b i):dA S' C' w w':=by
 refine ⟨h.upd.mono fun b hb=> ?_,fun b hb t cs hk=> ?_⟩
 · rcases hb with hb|⟨i,hi⟩
   · exact Or.inl (hs b hb)
   · rcases hc b i hi with x|x
     · exact Or.inl x
     · exact Or.inr ⟨i,x⟩
 · obtain ⟨cs',b1,b2,b3⟩:=h.blk b (fun x=>hb (hs b x)) t cs hk
   exact ⟨cs',b1,b2,fun i hi=>b3 i (fun x=>by rcases hc b i x with y|y;exact hb y;exact hi y)⟩
theorem dA.JL {S:Nat→Prop} {C:Nat→Nat→Prop} {w w':World} (u:aH S w w'):dA S C w w':=
 ⟨u.mono fun _ h=>Or.inl h,fun b hb t cs h=>⟨cs,h.upd u hb,rfl,fun _ _=>rfl⟩⟩
theorem dA.kR {S:Nat→Prop} {C:Nat→Nat→Prop} {w w':World} (h:Below w.heap.size w w'):dA S C w w':=dA.JL ((ak h).mono fun _ h=>h.elim)
theorem dA.setCell {S:Nat→Prop} {C:Nat→Nat→Prop} {a w:World} (h:dA S C a w) {b i:Nat} (hc:C b i) (u:Value):dA S C a (w.setCell ⟨b,i,none⟩ u):=by
 refine h.trans ⟨(aH.refl _ w).setCell (.inl (Or.inr ⟨i,hc⟩)) u,fun x hx t cs hb=> ?_⟩;by_cases hxb:x=b
 · subst hxb
   refine ⟨_,hb.put i u,by simp,fun j hj=> ?_⟩;rw [Array.getElem?_setIfInBounds,if_neg (by rintro rfl;exact hj hc)]
 · exact ⟨cs,hb.far (p:=⟨b,i,none⟩) hxb u,rfl,fun _ _=>rfl⟩
theorem dA.Wn {S S':Nat→Prop} {C:Nat→Nat→Prop} {a w w':World} (h:dA S C a w) (u:aH S' w w') (hs: ∀b,S' b→S b):dA S C a w':=h.trans (dA.JL (u.mono hs))
theorem dA.below {S:Nat→Prop} {C:Nat→Nat→Prop} {w w':World} {B:Nat} (h:dA S C w w') (hS: ∀b,S b→B≤b) (hC: ∀b i,C b i→B≤b) (hB:B≤w.heap.size):Below B w w':=
 h.upd.below (fun b hb=>by rcases hb with hb|⟨i,hi⟩;exact hS b hb;exact hC b i hi) hB
def dD (w:World) (lp o h:Nat) (n:Int):Prop:= ∃t cs,aV w lp t cs∧cs[o]? =some (.int .u64 (h:Int))∧cs[o+1]? =some (.int .i64 n)
theorem dD.lt {w:World} {lp o h:Nat} {n:Int} (l:dD w lp o h n):lp<w.heap.size:=by obtain ⟨t,cs,b,_⟩:=l;exact b.lt
theorem dD.c0 {w:World} {lp o h:Nat} {n:Int} (l:dD w lp o h n):w.cell? ⟨lp,o,none⟩=some (.int .u64 (h:Int)):=by
 obtain ⟨t,cs,b,e1,e2⟩:=l;rw [b.cell];exact e1
theorem dD.c1 {w:World} {lp o h:Nat} {n:Int} (l:dD w lp o h n):w.cell? ⟨lp,o+1,none⟩=some (.int .i64 n):=by
 obtain ⟨t,cs,b,e1,e2⟩:=l;rw [b.cell];exact e2
theorem dD.frozen {w:World} {lp o h:Nat} {n:Int} (l:dD w lp o h n) (i:Nat):w.frozen? ⟨lp,i,none⟩=false:=by
 obtain ⟨t,cs,b,_⟩:=l;exact b.frozen i
theorem dD.keep {S:Nat→Prop} {C:Nat→Nat→Prop} {w w':World} {lp o h:Nat} {n:Int} (l:dD w lp o h n) (W:dA S C w w') (hs: ¬S lp) (h0: ¬C lp o) (h1: ¬C lp (o+1)):dD w' lp o h n:=by
 obtain ⟨t,cs,b,e1,e2⟩:=l;obtain ⟨cs',b',_,e⟩:=W.blk lp hs t cs b;exact ⟨t,cs',b',by rw [e _ h0];exact e1,by rw [e _ h1];exact e2⟩
theorem dD.upd {S:Nat→Prop} {w w':World} {lp o h:Nat} {n:Int} (l:dD w lp o h n) (u:aH S w w') (hs: ¬S lp):dD w' lp o h n:=by
 obtain ⟨t,cs,b,e⟩:=l;exact ⟨t,cs,b.upd u hs,e⟩
theorem dD.head {w:World} {lp o h:Nat} {n:Int} (l:dD w lp o h n) (h':Nat):dD (w.setCell ⟨lp,o,none⟩ (.int .u64 (h':Int))) lp o h' n:=by
 obtain ⟨t,cs,b,e1,e2⟩:=l;refine ⟨t,_,b.put o _, ?_, ?_⟩
 · obtain ⟨x,_⟩:=Array.getElem?_eq_some_iff.1 e1
   rw [Array.getElem?_setIfInBounds_self_of_lt x]
 · rw [Array.getElem?_setIfInBounds,if_neg (by omega)];exact e2
theorem dD.count {w:World} {lp o h:Nat} {n:Int} (l:dD w lp o h n) (n':Int):dD (w.setCell ⟨lp,o+1,none⟩ (.int .i64 n')) lp o h n':=by
 obtain ⟨t,cs,b,e1,e2⟩:=l;refine ⟨t,_,b.put (o+1) _, ?_, ?_⟩
 · rw [Array.getElem?_setIfInBounds,if_neg (by omega)];exact e1
 · obtain ⟨x,_⟩:=Array.getElem?_eq_some_iff.1 e2
   rw [Array.getElem?_setIfInBounds_self_of_lt x]
def qZ (lp o:Nat) (b i:Nat):Prop:=b=lp∧(i=o∨i=o+1)
end Go.Proofs.YtpibbcnkgdmcbaaGreatDoor
