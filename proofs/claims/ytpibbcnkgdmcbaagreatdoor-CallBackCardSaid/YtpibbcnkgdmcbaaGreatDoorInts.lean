/- Slices of int, and of structs of three ints, that came in: what reads as a list. Over whatever program. -/
import Derived.Test.YtpibbcnkgdmcbaaGreatDoorBlk
set_option linter.unusedVariables false
namespace Go.Proofs.YtpibbcnkgdmcbaaGreatDoor
open Go.RowKit
def gy (n:Int):Prop:= -9223372036854775808≤n∧n≤9223372036854775807
theorem gy.of {n:Int} (h:(Lit.int .i64 n).wf=true):gy n:=by
 simp [Lit.wf,IntKind.min,IntKind.max,IntKind.signed,IntKind.bits] at h;exact ⟨by omega,by omega⟩
theorem gy.wf {n:Int} (h:gy n):(Lit.int .i64 n).wf=true:=WalkArith.wf_i64 h
def Ints (w:World) (v:Value) (l:List Int):Prop:=
 (∃b off cap,v= .slice (some ⟨b,off,none⟩) l.length cap∧ ∀j,j<l.length→w.cell? ⟨b,off+j,none⟩=some (.int .i64 (l.getD j 0)))
  ∨(l= []∧ ∃a cap,v= .slice a 0 cap∧(a=none→cap=0))
theorem Ints.len {w:World} {a:Option Addr} {n cap:Nat} {l:List Int} (h:Ints w (.slice a n cap) l):n=l.length:=by
 rcases h with ⟨b,off,c,e,_⟩|⟨rfl,a',c,e,_⟩
 · injection e
 · injection e
theorem Ints.below {w w':World} {v:Value} {l:List Int} (h:Ints w v l) {B:Nat} (hB:w.heap.size≤B) (hb:Below B w w'):Ints w' v l:=by
 rcases h with ⟨b,off,cap,rfl,hc⟩|h
 · refine .inl ⟨b,off,cap,rfl,fun j hj=> ?_⟩
   have:=hc j hj;have hlt:=World.block_lt_of_cell? w _ this;rw [hb.cell (p:=⟨b,off+j,none⟩) (by simp only at hlt⊢;omega)];exact this
 · exact .inr h
theorem Ints.one (w:World) (e:TypeId) (x:Int):Ints (w.alloc (.cells #[.int .i64 x] e)) (.slice (some ⟨w.heap.size,0,none⟩) 1 1) [x]:=by
 refine .inl ⟨w.heap.size,0,1,rfl,fun j hj=> ?_⟩;have h0:j=0:=by simpa using hj
 subst h0;exact (aV.new w _ _).cell 0
theorem Ints.two (w:World) (e:TypeId) (x y:Int):Ints (w.alloc (.cells #[.int .i64 x, .int .i64 y] e)) (.slice (some ⟨w.heap.size,0,none⟩) 2 2) [x,y]:=by
 refine .inl ⟨w.heap.size,0,2,rfl,fun j hj=> ?_⟩;rcases j with _|_|j
 · exact (aV.new w _ _).cell 0
 · exact (aV.new w _ _).cell 1
 · simp only [List.length_cons,List.length_nil] at hj;omega
def Ji (w:World) (v:Value) (l:List Int):Prop:=Ints w v l∧(∀n∈l,gy n)∧l.length≤9223372036854775807∧(∀a n cap,v= .slice a n cap→n≤cap∧cap≤9223372036854775807)
theorem Ji.ofNil {w:World}:Ji w (.slice none 0 0) []:=⟨.inr ⟨rfl,none,0,rfl,fun _=>rfl⟩,by simp,by simp,by intro a n cap h;injection h;omega⟩
def aen:Type:=Int×Int×Int
def Bh (w:World) (v:Value) (l:List (Int×Int×Int)):Prop:=
 (∃b off cap,v= .slice (some ⟨b,off,none⟩) l.length cap∧ ∀j,j<l.length→w.cell? ⟨b,off+j*3,none⟩=some (.int .i64 (l.getD j (0,0,0)).1)∧w.cell? ⟨b,off+j*3+1,none⟩=some (.int .i64 (l.getD j (0,0,0)).2.1)∧w.cell? ⟨b,off+j*3+2,none⟩=some (.int .i64 (l.getD j (0,0,0)).2.2))
  ∨(l= []∧ ∃a cap,v= .slice a 0 cap∧(a=none→cap=0))
theorem Bh.len {w:World} {a:Option Addr} {n cap:Nat} {l:List (Int×Int×Int)} (h:Bh w (.slice a n cap) l):n=l.length:=by
 rcases h with ⟨b,off,c,e,_⟩|⟨rfl,a',c,e,_⟩
 · injection e
 · injection e
theorem Bh.below {w w':World} {v:Value} {l:List (Int×Int×Int)} (h:Bh w v l) {B:Nat} (hB:w.heap.size≤B) (hb:Below B w w'):Bh w' v l:=by
 rcases h with ⟨b,off,cap,rfl,hc⟩|h
 · refine .inl ⟨b,off,cap,rfl,fun j hj=> ?_⟩
   obtain ⟨h1,h2,h3⟩:=hc j hj;have l1:=World.block_lt_of_cell? w _ h1;have hlt:b<B:=by simp only at l1;omega
   exact ⟨(hb.cell (p:=⟨b,off+j*3,none⟩) hlt).trans h1,(hb.cell (p:=⟨b,off+j*3+1,none⟩) hlt).trans h2,(hb.cell (p:=⟨b,off+j*3+2,none⟩) hlt).trans h3⟩
 · exact .inr h
def VZ (t:Int×Int×Int):Prop:=gy t.1∧gy t.2.1∧gy t.2.2
def nK (w:World) (v:Value) (l:List (Int×Int×Int)):Prop:=Bh w v l∧(∀t∈l,VZ t)∧l.length≤9223372036854775807∧(∀a n cap,v= .slice a n cap→n≤cap∧cap≤9223372036854775807)
theorem nK.below {w w':World} {v:Value} {l:List (Int×Int×Int)} (h:nK w v l) {B:Nat} (hB:w.heap.size≤B) (hb:Below B w w'):nK w' v l:=⟨h.1.below hB hb,h.2⟩
theorem nK.getD {w:World} {v:Value} {l:List (Int×Int×Int)} (h:nK w v l) {j:Nat} (hj:j<l.length):VZ (l.getD j (0,0,0)):=by
 refine h.2.1 _ ?_;rw [List.getD_eq_getElem?_getD,List.getElem?_eq_getElem hj];exact List.getElem_mem hj
theorem nK.ofNil {w:World}:nK w (.slice none 0 0) []:=⟨.inr ⟨rfl,none,0,rfl,fun _=>rfl⟩,by simp,by simp,by intro a n cap h;injection h;omega⟩
end Go.Proofs.YtpibbcnkgdmcbaaGreatDoor
