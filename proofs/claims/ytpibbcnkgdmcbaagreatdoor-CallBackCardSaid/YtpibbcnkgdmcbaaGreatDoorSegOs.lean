/- A segment of a law's own (layer 10): each call on it, and on its pages. -/
import Derived.Test.YtpibbcnkgdmcbaaGreatDoorSegCl
set_option linter.unusedVariables false
namespace Go.Proofs.YtpibbcnkgdmcbaaGreatDoor
open Go.RowKit aC aF aG aI au
section
variable {w:World} {C:fH w} {sp p g:Nat} {I I':Nat→Prop} {c:Addr} {L L':List Nat} {X X':SG} {w' w2:World}
structure nT (C:fH w) (sp p g:Nat) (I:Nat→Prop) (c:Addr) (L:List Nat) (X:SG) (w':World):Prop where
 sg:Sg C.Int' w' sp p g I c L X
 below:Below w.heap.size w w'
 lo: ∀b,SO p g I X b→w.heap.size≤b
def Grown (p g:Nat) (I:Nat→Prop) (X:SG) (I':Nat→Prop) (X':SG) (n:Nat):Prop:= ∀b,SO p g I' X' b→SO p g I X b∨n≤b
theorem Grown.refl {n:Nat}:Grown p g I X I X n:=fun b h=> .inl h
theorem nT.step (h:nT C sp p g I c L X w') (k:Sg C.Int' w2 sp p g I' c L' X') (u:aH (SO p g I X) w' w2) (hg:Grown p g I X I' X' w'.heap.size):nT C sp p g I' c L' X' w2:=
 ⟨k,h.below.trans (u.below (fun b hb=>h.lo b hb) h.below.size),fun b hb=>by
  rcases hg b hb with x|x
  · exact h.lo b x
  · exact Nat.le_trans h.below.size x⟩
theorem nT.grew (h:nT C sp p g I c L X w') (hb:Below w'.heap.size w' w2):nT C sp p g I c L X w2:=⟨h.sg.grew hb,ah h.below h.below.size hb,h.lo⟩
theorem nT.upd {T:Nat→Prop} (h:nT C sp p g I c L X w') (u:aH T w' w2) (hT: ∀b,T b→ ¬SO p g I X b∧w.heap.size≤b):nT C sp p g I c L X w2:=
 ⟨h.sg.upd u fun b hb=>(hT b hb).1,h.below.trans (u.below (fun b hb=>(hT b hb).2) h.below.size),h.lo⟩
theorem nT.drew (h:nT C sp p g I c L X w'):nT C sp p g I c L X w'.drew:=h.grew (Below.refl _ _).drew
theorem nT.run (h:nT C sp p g I c L X w') {o:bY} (ho:o∈X.L):Calls Tryz.prog 32 #[.pointer (some ⟨o.pp,0,none⟩)] w' fun e w2=>e= .returned (iW o.P.f o.P.s (o.P.n:Int))∧nT C sp p g I c L X w2∧Below w'.heap.size w' w2:=
 (GK w' (h.sg.pg o ho).1).mono fun e w2 ⟨k1,k2⟩=>⟨k1,h.grew k2,k2⟩
theorem nT.c0 (h:nT C sp p g I c L X w') {o:bY} (ho:o∈X.L):w'.cell? ⟨o.op,0,none⟩=some (.pointer (some ⟨o.pp,0,none⟩)):=(h.sg.own o ho).cell 0
theorem nT.c1 (h:nT C sp p g I c L X w') {o:bY} (ho:o∈X.L):w'.cell? ⟨o.op,1,none⟩=some (.int .i64 o.cls):=(h.sg.own o ho).cell 1
theorem nT.c2 (h:nT C sp p g I c L X w') {o:bY} (ho:o∈X.L):w'.cell? ⟨o.op,2,none⟩=some (.int .i64 (o.lo:Int)):=(h.sg.own o ho).cell 2
theorem nT.c3 (h:nT C sp p g I c L X w') {o:bY} (ho:o∈X.L):w'.cell? ⟨o.op,3,none⟩=some (.int .i64 (o.wd:Int)):=(h.sg.own o ho).cell 3
theorem nT.two (h:nT C sp p g I c L X w') {a b:bY} (ha:a∈X.L) (hb:b∈X.L):a.op=b.op→a=b:=fun e=>by
 have hn:=h.sg.ops
 revert ha hb hn
 generalize X.L=l
 intro ha hb hn
 induction l with
 |nil=>cases ha
 |cons x t ih=>
  rw [List.map_cons,List.nodup_cons] at hn;rcases List.mem_cons.1 ha with rfl|ha2
  · rcases List.mem_cons.1 hb with rfl|hb2
    · rfl
    · exact absurd (List.mem_map.2 ⟨b,hb2,e.symm⟩) hn.1
  · rcases List.mem_cons.1 hb with rfl|hb2
    · exact absurd (List.mem_map.2 ⟨a,ha2,e⟩) hn.1
    · exact ih ha2 hb2 hn.2
end
theorem WL (n:Nat) (h0:1024≤n) (h1:n≤1048576) (h2:n%1024=0) (w:World):Calls Tryz.prog 14 #[.int .u64 (n:Int)] w fun e w'=> ∃p g L,e= .returned (.tuple #[.pointer (some ⟨p,0,none⟩), .int .i64 0])∧bC w' p g L∧L.length=n∧w.heap.size≤p∧w.heap.size≤g∧Below w.heap.size w w':=
 (BR n h0 h1 h2 w).mono fun e w' ⟨p,g,h1,h2,h3,h4,h5⟩=>⟨p,g,_,h1,h2,ay.dS _ _,h3,h4,h5.below (fun _ h=>h.elim) (Nat.le_refl _)⟩
theorem Gw (S:PG):(aW S).f=S.f∧(aW S).s=S.s∧(aW S).n=S.n:=by
 unfold aW;split
 · exact ⟨rfl,rfl,rfl⟩
 · split<;>exact ⟨rfl,rfl,rfl⟩
theorem Jd (S:PG):(aP S).1.f=S.f∧(aP S).1.s=S.s∧(aP S).1.n=S.n:=by
 cases h:(aW S).F with
 |nil=>rw [jw h];exact ⟨rfl,rfl,rfl⟩
 |cons a t=>rw [iN h];exact Gw S
theorem LH {L:List Nat} {S:PG} (g:aJ L S): ∀y∈b_ S,S.f≤y∧y+8≤S.f+S.n*S.s:=fun y hy=>by
 unfold b_ at hy;split at hy
 · have hb:=lW hy
   have hm:=g.made;have hk:S.made+vw S≤S.n:=by unfold vw;split<;>omega
   have h1:=hb.fits hk (Nat.le_refl (S.f+S.n*S.s));obtain ⟨i,_,e⟩:=hb;have h2:=g.s16;exact ⟨by omega,by omega⟩
 · cases hy
section
variable {w:World} {C:fH w} {sp p g:Nat} {I:Nat→Prop} {c:Addr} {L L':List Nat} {X:SG} {w' w2:World}
theorem nT.turn (h:nT C sp p g I c L X w') {o:bY} (ho:o∈X.L) {Y:List Nat} {S:PG} (k:XR w2 o.pp p g (OO o.pp p g) ⟨o.pp,10,none⟩ L' S) (u:aH (OO o.pp p g) w' w2) (ha:Agree L L' Y) (hY: ∀y∈Y,o.P.f≤y∧y+8≤o.P.f+o.P.n*o.P.s) (hs:S.f=o.P.f∧S.s=o.P.s∧S.n=o.P.n):nT C sp p g I c L' (X.put o.pp S) w2:=
 h.step (h.sg.turn ho k u ha hY hs) (u.mono fun b hb=>by
  rcases hb with rfl|rfl|rfl
  · exact .inr (.inr (.inr ⟨o,ho, .inr rfl⟩))
  · exact .inl rfl
  · exact .inr (.inl rfl)) (fun b hb=> .inl (SO.put.1 hb))
theorem YV {o:bY} (ho:o∈X.L) (u:aH (OO o.pp p g) w' w2):aH (SO p g I X) w' w2:=u.mono fun b hb=>by
 rcases hb with rfl|rfl|rfl
 · exact .inr (.inr (.inr ⟨o,ho, .inr rfl⟩))
 · exact .inl rfl
 · exact .inr (.inl rfl)
theorem nT.alloc (h:nT C sp p g I c L X w') {o:bY} (ho:o∈X.L):
 Calls Tryz.prog 114 #[.pointer (some ⟨o.pp,0,none⟩)] w' fun e w2=>e= .returned (.tuple #[.int .u64 ((aP o.P).2.1:Int), .int .i64 (aP o.P).2.2])∧ ∃L',nT C sp p g I c L' (X.put o.pp (aP o.P).1) w2∧Agree L L' (b_ o.P)∧aH (SO p g I X) w' w2:=by
 obtain ⟨h1,h2,h3,h4⟩:=h.sg.pg o ho;refine (D8 w' h1 h2 h3).mono fun e w2 ⟨k1,L',k2,k3,k4,k5,k6⟩=>⟨k1,L',h.turn ho ⟨k2,k3,k4,by rw [Bg];exact h4,rfl,rfl⟩ k6 k5 (LH h2) (Jd o.P),k5,YV ho k6⟩
theorem nT.used (h:nT C sp p g I c L X w') {o:bY} (ho:o∈X.L):
 Calls Tryz.prog 158 #[.pointer (some ⟨o.pp,0,none⟩)] w' fun e w2=>e= .returned (.int .i64 (o.P.used:Int))∧nT C sp p g I c L X w2∧Below w'.heap.size w' w2:=
 (BL (h.sg.pg o ho).1).mono fun e w2 ⟨k1,k2⟩=>⟨k1,h.grew k2,k2⟩
theorem nT.free (h:nT C sp p g I c L X w') {o:bY} (ho:o∈X.L) {a:Option Addr} {cap x:Nat} (hq:Seq Elem.jl w' (.slice a 1 cap) [x]) (hne: ∀b,In (.slice a 1 cap) b→ ¬SO p g I X b) (hb:bO o.P.f o.P.s o.P.made x) (hF:x∉o.P.F) (hG:x∉o.P.G) (hu:1≤o.P.used):
 Calls Tryz.prog 129 #[.pointer (some ⟨o.pp,0,none⟩), .slice a 1 cap] w' fun e w2=>e= .returned (.int .i64 0)∧ ∃L',nT C sp p g I c L' (X.put o.pp {o.P with G:=x::o.P.G,used:=o.P.used-1}) w2∧Agree L L' [x]∧aH (SO p g I X) w' w2:=by
 obtain ⟨h1,h2,h3,h4⟩:=h.sg.pg o ho;have hbl:=hb.fits h2.made (Nat.le_refl (o.P.f+o.P.n*o.P.s));have hfx:o.P.f≤x:=by obtain ⟨i,_,e⟩:=hb;omega
 have hs:=h2.s16;have hfit:=h2.fit;have hbig:=h2.big;have hp:bg o.P x=({o.P with G:=x::o.P.G,used:=o.P.used-1},0):=by unfold bg;rw [uH h2 hb,if_neg (fun y=>y rfl),if_neg (by omega)]
 refine (JJ w' h1 h2 h3 hq (fun b hb x=>hne b hb ?_) (by decide) (fun y hy=>by rw [List.mem_singleton.1 hy];show x≤_;omega) (fun j y hj _ _=> ?_)).mono fun e w2 ⟨k1,L',k2,k3,k4,k5,k6⟩=> ?_
 · rcases x with rfl|rfl|rfl
   · exact .inr (.inr (.inr ⟨o,ho, .inr rfl⟩))
   · exact .inl rfl
   · exact .inr (.inl rfl)
 · have hj0:j=0:=by
    have:=(List.getElem?_eq_some_iff.1 hj).1
    simpa using this
   subst hj0;have:y=x:=(Option.some.inj hj).symm;subst this;exact ⟨hF,hG⟩
 · rw [AO,hp] at k1 k2 k3 k4
   exact ⟨k1,L',h.turn ho ⟨k2,k3,k4,h4,rfl,rfl⟩ k6 k5 (fun y hy=>by rw [List.mem_singleton.1 hy];exact ⟨hfx,by omega⟩) ⟨rfl,rfl,rfl⟩,k5,YV ho k6⟩
end
end Go.Proofs.YtpibbcnkgdmcbaaGreatDoor
