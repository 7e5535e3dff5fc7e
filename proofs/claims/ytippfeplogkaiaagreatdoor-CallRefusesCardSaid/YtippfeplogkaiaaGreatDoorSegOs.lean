/- A segment of a law's own (layer 10): each call on it, and on its pages. -/
import Derived.Test.YtippfeplogkaiaaGreatDoorSegCl
namespace Go.Proofs.YtippfeplogkaiaaGreatDoor
open Go.RowKit ListMath PageMath GeoMath SegMath ClassMath
set_option linter.unusedVariables false
section
variable {w:World} {C:SgC w} {sp p g:Nat} {I I':Nat→Prop} {c:Addr} {L L':List Nat} {X X':SG} {w' w2:World}
structure OSg (C:SgC w) (sp p g:Nat) (I:Nat→Prop) (c:Addr) (L:List Nat) (X:SG) (w':World):Prop where
  sg:Sg C.Int' w' sp p g I c L X
  below:Below w.heap.size w w'
  lo: ∀b,SO p g I X b→w.heap.size≤b
def Grown (p g:Nat) (I:Nat→Prop) (X:SG) (I':Nat→Prop) (X':SG) (n:Nat):Prop:= ∀b,SO p g I' X' b→SO p g I X b∨n≤b
theorem Grown.refl {n:Nat}:Grown p g I X I X n:=fun b h=> .inl h
theorem OSg.step (h:OSg C sp p g I c L X w') (k:Sg C.Int' w2 sp p g I' c L' X') (u:Upd (SO p g I X) w' w2) (hg:Grown p g I X I' X' w'.heap.size):OSg C sp p g I' c L' X' w2:=
  ⟨k,h.below.trans (u.below (fun b hb=>h.lo b hb) h.below.size),fun b hb=>by
    rcases hg b hb with x|x
    · exact h.lo b x
    · exact Nat.le_trans h.below.size x⟩
theorem OSg.grew (h:OSg C sp p g I c L X w') (hb:Below w'.heap.size w' w2):OSg C sp p g I c L X w2:=⟨h.sg.grew hb,below_then h.below h.below.size hb,h.lo⟩
theorem OSg.upd {T:Nat→Prop} (h:OSg C sp p g I c L X w') (u:Upd T w' w2) (hT: ∀b,T b→ ¬SO p g I X b∧w.heap.size≤b):OSg C sp p g I c L X w2:=
  ⟨h.sg.upd u fun b hb=>(hT b hb).1,h.below.trans (u.below (fun b hb=>(hT b hb).2) h.below.size),h.lo⟩
theorem OSg.drew (h:OSg C sp p g I c L X w'):OSg C sp p g I c L X w'.drew:=h.grew (Below.refl _ _).drew
theorem OSg.run (h:OSg C sp p g I c L X w') {o:OwR} (ho:o∈X.L):Calls Tryz.prog 85 #[.pointer (some ⟨o.pp,0,none⟩)] w' fun e w2=>e= .returned (runV o.P.f o.P.s (o.P.n:Int))∧OSg C sp p g I c L X w2∧Below w'.heap.size w' w2:=
  (pg_run w' (h.sg.pg o ho).1).mono fun e w2 ⟨k1,k2⟩=>⟨k1,h.grew k2,k2⟩
theorem OSg.c0 (h:OSg C sp p g I c L X w') {o:OwR} (ho:o∈X.L):w'.cell? ⟨o.op,0,none⟩=some (.pointer (some ⟨o.pp,0,none⟩)):=(h.sg.own o ho).cell 0
theorem OSg.c1 (h:OSg C sp p g I c L X w') {o:OwR} (ho:o∈X.L):w'.cell? ⟨o.op,1,none⟩=some (.int .i64 o.cls):=(h.sg.own o ho).cell 1
theorem OSg.c2 (h:OSg C sp p g I c L X w') {o:OwR} (ho:o∈X.L):w'.cell? ⟨o.op,2,none⟩=some (.int .i64 (o.lo:Int)):=(h.sg.own o ho).cell 2
theorem OSg.c3 (h:OSg C sp p g I c L X w') {o:OwR} (ho:o∈X.L):w'.cell? ⟨o.op,3,none⟩=some (.int .i64 (o.wd:Int)):=(h.sg.own o ho).cell 3
theorem OSg.two (h:OSg C sp p g I c L X w') {a b:OwR} (ha:a∈X.L) (hb:b∈X.L):a.op=b.op→a=b:=fun e=>by
  have hn:=h.sg.ops
  revert ha hb hn
  generalize X.L=l
  intro ha hb hn
  induction l with
  |nil=>cases ha
  | cons x t ih=>
    rw [List.map_cons,List.nodup_cons] at hn
    rcases List.mem_cons.1 ha with rfl|ha2
    · rcases List.mem_cons.1 hb with rfl|hb2
      · rfl
      · exact absurd (List.mem_map.2 ⟨b,hb2,e.symm⟩) hn.1
    · rcases List.mem_cons.1 hb with rfl|hb2
      · exact absurd (List.mem_map.2 ⟨a,ha2,e⟩) hn.1
      · exact ih ha2 hb2 hn.2
end
theorem newMem (n:Nat) (h0:1024≤n) (h1:n≤1048576) (h2:n%1024=0) (w:World):Calls Tryz.prog 75 #[.int .u64 (n:Int)] w fun e w'=> ∃p g L,e= .returned (.tuple #[.pointer (some ⟨p,0,none⟩), .int .i64 0])∧IsMem w' p g L∧L.length=n∧w.heap.size≤p∧w.heap.size≤g∧Below w.heap.size w w':=
  (new_ok n h0 h1 h2 w).mono fun e w' ⟨p,g,h1,h2,h3,h4,h5⟩=>⟨p,g,_,h1,h2,MemMath.length_rep _ _,h3,h4,h5.below (fun _ h=>h.elim) (Nat.le_refl _)⟩
theorem refill_run (S:PG):(refill S).f=S.f∧(refill S).s=S.s∧(refill S).n=S.n:=by
  unfold refill;split
  · exact ⟨rfl,rfl,rfl⟩
  · split<;>exact ⟨rfl,rfl,rfl⟩
theorem allocP_run (S:PG):(allocP S).1.f=S.f∧(allocP S).1.s=S.s∧(allocP S).1.n=S.n:=by
  cases h:(refill S).F with
  |nil=>rw [allocP_nil h];exact ⟨rfl,rfl,rfl⟩
  |cons a t=>rw [allocP_cons h];exact refill_run S
theorem newsOf_in {L:List Nat} {S:PG} (g:GoodP L S): ∀y∈newsOf S,S.f≤y∧y+8≤S.f+S.n*S.s:=fun y hy=>by
  unfold newsOf at hy
  split at hy
  · have hb:=news_blk hy
    have hm:=g.made
    have hk:S.made+moreN S≤S.n:=by unfold moreN;split<;>omega
    have h1:=hb.fits hk (Nat.le_refl (S.f+S.n*S.s))
    obtain ⟨i,_,e⟩:=hb
    have h2:=g.s16
    exact ⟨by omega,by omega⟩
  · cases hy
section
variable {w:World} {C:SgC w} {sp p g:Nat} {I:Nat→Prop} {c:Addr} {L L':List Nat} {X:SG} {w' w2:World}
theorem OSg.turn (h:OSg C sp p g I c L X w') {o:OwR} (ho:o∈X.L) {Y:List Nat} {S:PG} (k:PgS w2 o.pp p g (OO o.pp p g) ⟨o.pp,10,none⟩ L' S) (u:Upd (OO o.pp p g) w' w2) (ha:Agree L L' Y) (hY: ∀y∈Y,o.P.f≤y∧y+8≤o.P.f+o.P.n*o.P.s) (hs:S.f=o.P.f∧S.s=o.P.s∧S.n=o.P.n):OSg C sp p g I c L' (X.put o.pp S) w2:=
  h.step (h.sg.turn ho k u ha hY hs) (u.mono fun b hb=>by
    rcases hb with rfl|rfl|rfl
    · exact .inr (.inr (.inr ⟨o,ho, .inr rfl⟩))
    · exact .inl rfl
    · exact .inr (.inl rfl)) (fun b hb=> .inl (SO.put.1 hb))
theorem ooSO {o:OwR} (ho:o∈X.L) (u:Upd (OO o.pp p g) w' w2):Upd (SO p g I X) w' w2:=u.mono fun b hb=>by
  rcases hb with rfl|rfl|rfl
  · exact .inr (.inr (.inr ⟨o,ho, .inr rfl⟩))
  · exact .inl rfl
  · exact .inr (.inl rfl)
theorem OSg.alloc (h:OSg C sp p g I c L X w') {o:OwR} (ho:o∈X.L):
    Calls Tryz.prog 217 #[.pointer (some ⟨o.pp,0,none⟩)] w' fun e w2=>e= .returned (.tuple #[.int .u64 ((allocP o.P).2.1:Int), .int .i64 (allocP o.P).2.2])∧ ∃L',OSg C sp p g I c L' (X.put o.pp (allocP o.P).1) w2∧Agree L L' (newsOf o.P)∧Upd (SO p g I X) w' w2:=by
  obtain ⟨h1,h2,h3,h4⟩:=h.sg.pg o ho
  refine (pg_alloc w' h1 h2 h3).mono fun e w2 ⟨k1,L',k2,k3,k4,k5,k6⟩=>⟨k1,L',h.turn ho ⟨k2,k3,k4,by rw [allocP_cw];exact h4,rfl,rfl⟩ k6 k5 (newsOf_in h2) (allocP_run o.P),k5,ooSO ho k6⟩
theorem OSg.used (h:OSg C sp p g I c L X w') {o:OwR} (ho:o∈X.L):
    Calls Tryz.prog 259 #[.pointer (some ⟨o.pp,0,none⟩)] w' fun e w2=>e= .returned (.int .i64 (o.P.used:Int))∧OSg C sp p g I c L X w2∧Below w'.heap.size w' w2:=
  (pg_used (h.sg.pg o ho).1).mono fun e w2 ⟨k1,k2⟩=>⟨k1,h.grew k2,k2⟩
theorem OSg.free (h:OSg C sp p g I c L X w') {o:OwR} (ho:o∈X.L) {a:Option Addr} {cap x:Nat} (hq:Seq Elem.u64s w' (.slice a 1 cap) [x]) (hne: ∀b,In (.slice a 1 cap) b→ ¬SO p g I X b) (hb:IsBlk o.P.f o.P.s o.P.made x) (hF:x∉o.P.F) (hG:x∉o.P.G) (hu:1≤o.P.used):
    Calls Tryz.prog 230 #[.pointer (some ⟨o.pp,0,none⟩), .slice a 1 cap] w' fun e w2=>e= .returned (.int .i64 0)∧ ∃L',OSg C sp p g I c L' (X.put o.pp {o.P with G:=x::o.P.G,used:=o.P.used-1}) w2∧Agree L L' [x]∧Upd (SO p g I X) w' w2:=by
  obtain ⟨h1,h2,h3,h4⟩:=h.sg.pg o ho
  have hbl:=hb.fits h2.made (Nat.le_refl (o.P.f+o.P.n*o.P.s))
  have hfx:o.P.f≤x:=by obtain ⟨i,_,e⟩:=hb;omega
  have hs:=h2.s16
  have hfit:=h2.fit
  have hbig:=h2.big
  have hp:free1 o.P x=({o.P with G:=x::o.P.G,used:=o.P.used-1},0):=by unfold free1;rw [given_blk h2 hb,if_neg (fun y=>y rfl),if_neg (by omega)]
  refine (pg_free w' h1 h2 h3 hq (fun b hb x=>hne b hb ?_) (by decide) (fun y hy=>by rw [List.mem_singleton.1 hy];show x≤_;omega) (fun j y hj _ _=> ?_)).mono fun e w2 ⟨k1,L',k2,k3,k4,k5,k6⟩=> ?_
  · rcases x with rfl|rfl|rfl
    · exact .inr (.inr (.inr ⟨o,ho, .inr rfl⟩))
    · exact .inl rfl
    · exact .inr (.inl rfl)
  · have hj0:j=0:=by
      have:=(List.getElem?_eq_some_iff.1 hj).1
      simpa using this
    subst hj0
    have:y=x:=(Option.some.inj hj).symm
    subst this
    exact ⟨hF,hG⟩
  · rw [freeP_one,hp] at k1 k2 k3 k4
    exact ⟨k1,L',h.turn ho ⟨k2,k3,k4,h4,rfl,rfl⟩ k6 k5 (fun y hy=>by rw [List.mem_singleton.1 hy];exact ⟨hfx,by omega⟩) ⟨rfl,rfl,rfl⟩,k5,ooSO ho k6⟩
end
end Go.Proofs.YtippfeplogkaiaaGreatDoor
