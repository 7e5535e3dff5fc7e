/- Layer 12: segments that are side by side in one memory, and the arena that they are from. -/
import Derived.Test.YtpibbcnkgdmcbaaGreatDoorSegOs
import Derived.Test.YtpibbcnkgdmcbaaGreatDoorArenas12
import Derived.Test.YtpibbcnkgdmcbaaGreatDoorUses12
set_option linter.unusedVariables false
namespace Go.Proofs.YtpibbcnkgdmcbaaGreatDoor
open Go.RowKit aC aF aG aI au aD aA
structure SB where
 sp:Nat
 I:Nat→Prop
 c:Addr
 X:SG
def BP (b:SB) (k:Nat):Prop:=b.I k∨ ∃o∈b.X.L,k=o.op∨k=o.pp
section
variable {w0 w w':World} {C:fH w0} {p g sp:Nat} {I:Nat→Prop} {c:Addr} {L L' Y:List Nat} {X:SG} {T:Nat→Prop}
theorem Rt {b:SB} {k:Nat}:SO p g b.I b.X k↔k=p∨k=g∨BP b k:=Iff.rfl
theorem BP.far {b:SB} (h:Sg C.Int' w b.sp p g b.I b.c L b.X) {k:Nat} (hk:BP b k):k≠p∧k≠g:=by
 rcases hk with hk|⟨o,ho,rfl|rfl⟩
 · exact ⟨fun e=>h.sep.1 (e▸hk),fun e=>h.sep.2.1 (e▸hk)⟩
 · have:=h.sep.2.2 o ho;exact ⟨this.2.2.1,this.2.2.2.1⟩
 · exact ⟨(h.pg o ho).1.np,(h.pg o ho).1.ng⟩
theorem Sg.aside (h:Sg C.Int' w sp p g I c L X) (m:bC w' p g L') (u:aH T w w') (hT: ∀k,T k→ ¬BP ⟨sp,I,c,X⟩ k) (ha:Agree L L' Y) (hY: ∀y∈Y,∀o∈X.L,y+8≤o.P.f∨o.P.f+o.P.n*o.P.s≤y):Sg C.Int' w' sp p g I c L' X where
 int:=C.upd h.int u fun b hb x=>hT b hb (.inl x)
 mem:=m
 len:=by rw [ha.1];exact h.len
 pl:=h.pl
 good:=h.good
 own o ho:=(h.own o ho).upd u fun x=>hT _ x (.inr ⟨o,ho, .inl rfl⟩)
 pg o ho:=⟨(h.pg o ho).1.beside m u fun x=>hT _ x (.inr ⟨o,ho, .inr rfl⟩),(h.pg o ho).2.1.aside ha fun y hy=>hY y hy o ho,(h.pg o ho).2.2⟩
 ops:=h.ops
 pps:=h.pps
 sep:=h.sep
end
structure jO {w0:World} (C:fH w0) (w:World) (p g:Nat) (L:List Nat) (Bs:List SB):Prop where
 mem:bC w p g L
 sg: ∀b∈Bs,Sg C.Int' w b.sp p g b.I b.c L b.X
 ap:Bs.Pairwise fun a b=> ∀k,BP a k→ ¬BP b k
 nd:(Bs.map fun b=>b.X.pl).Nodup
section
variable {w0 w w':World} {C:fH w0} {p g:Nat} {L L' Y:List Nat} {Bs l r:List SB} {b b':SB} {T:Nat→Prop}
theorem jO.lt (h:jO C w p g L Bs) (hb:b∈Bs) {k:Nat} (hk:BP b k):k<w.heap.size:=(h.sg b hb).lt (Rt.2 (.inr (.inr hk)))
theorem jO.perm (h:jO C w p g L Bs) {RX:List SB} (e:Bs.Perm RX):jO C w p g L RX:=
 ⟨h.mem,fun b hb=>h.sg b (e.mem_iff.2 hb),(e.pairwise_iff fun {a b} hab k hb ha=>hab k ha hb).1 h.ap,((e.map _).nodup_iff).1 h.nd⟩
theorem jO.sub (h:jO C w p g L Bs) {RX:List SB} (e:RX.Sublist Bs):jO C w p g L RX:=
 ⟨h.mem,fun b hb=>h.sg b (e.subset hb),h.ap.sublist e,h.nd.sublist (e.map _)⟩
theorem jO.upd (h:jO C w p g L Bs) (u:aH T w w') (hT: ∀k,T k→k≠p∧k≠g∧ ∀b∈Bs,¬BP b k):jO C w' p g L Bs:=
 ⟨h.mem.upd u (fun x=>(hT _ x).1 rfl) (fun x=>(hT _ x).2.1 rfl),fun b hb=>(h.sg b hb).upd u fun k hk x=>by
  rcases Rt.1 x with e|e|x
  · exact (hT k hk).1 e
  · exact (hT k hk).2.1 e
  · exact (hT k hk).2.2 b hb x,h.ap,h.nd⟩
theorem jO.grew (h:jO C w p g L Bs) (hb:Below w.heap.size w w'):jO C w' p g L Bs:=h.upd (ak hb) fun _ x=>x.elim
theorem jO.turn (h:jO C w p g L (l++b::r)) (k:Sg C.Int' w' b'.sp p g b'.I b'.c L' b'.X) (hpl:b'.X.pl=b.X.pl) (u:aH T w w') (hT: ∀x,T x→BP b x∨x=p∨x=g) (ha:Agree L L' Y) (hY: ∀y∈Y,b.X.pl*16384≤y∧y+8≤b.X.pl*16384+16384)
 (hg: ∀x,BP b' x→BP b x∨w.heap.size≤x):jO C w' p g L' (l++b'::r):=by
 have hap:=List.pairwise_append.1 h.ap;have hbr:=List.pairwise_cons.1 hap.2.1;have other: ∀a,a∈l∨a∈r→a∈l++b::r∧(∀k,BP a k→ ¬BP b k)∧a.X.pl≠b.X.pl:=fun a hx=>by
  have hn:=h.nd;rw [List.map_append,List.map_cons,List.nodup_append,List.nodup_cons] at hn;rcases hx with hx|hx
  · exact ⟨List.mem_append_left _ hx,hap.2.2 a hx b (List.mem_cons_self ..),hn.2.2 _ (List.mem_map.2 ⟨a,hx,rfl⟩) _ (List.mem_cons_self ..)⟩
  · exact ⟨List.mem_append_right _ (List.mem_cons_of_mem _ hx),fun k hk hb=>hbr.1 a hx k hb hk,fun e=>hn.2.1.1 (List.mem_map.2 ⟨a,hx,e⟩)⟩
 have ho: ∀a,a∈l∨a∈r→Sg C.Int' w' a.sp p g a.I a.c L' a.X:=fun a hx=>by
  obtain ⟨h1,h2,h3⟩:=other a hx;have hs:=h.sg a h1;refine hs.aside k.mem u (fun x hx2 hp=> ?_) ha fun y hy o ho=> ?_
  · rcases hT x hx2 with e|e|e
    · exact h2 x hp e
    · exact (BP.far hs hp).1 e
    · exact (BP.far hs hp).2 e
  · have h4:=hs.good.within ho
    have h5:=hs.good.fit o ho;have h6:=hY y hy;unfold aL at h4;omega
 have hnew: ∀a,a∈l∨a∈r→ ∀x,BP a x→ ¬BP b' x:=fun a hx x hp hb=>by
  obtain ⟨h1,h2,_⟩:=other a hx;rcases hg x hb with e|e
  · exact h2 x hp e
  · have:=h.lt h1 hp;omega
 refine ⟨k.mem,fun a hx=> ?_, ?_, ?_⟩
 · rcases List.mem_append.1 hx with hx|hx
   · exact ho a (.inl hx)
   · rcases List.mem_cons.1 hx with rfl|hx
     · exact k
     · exact ho a (.inr hx)
 · rw [List.pairwise_append,List.pairwise_cons]
   refine ⟨hap.1,⟨fun a hx x hb hp=>hnew a (.inr hx) x hp hb,hbr.2⟩,fun a hx z hz=> ?_⟩;rcases List.mem_cons.1 hz with rfl|hz
   · exact hnew a (.inl hx)
   · exact hap.2.2 a hx z (List.mem_cons_of_mem _ hz)
 · have hn:=h.nd
   rw [List.map_append,List.map_cons] at hn⊢;rw [hpl];exact hn
theorem jO.more (h:jO C w p g L Bs) (k:Sg C.Int' w b.sp p g b.I b.c L b.X) (hp: ∀a∈Bs,a.X.pl≠b.X.pl) (hg: ∀x,BP b x→ ∀a∈Bs,¬BP a x):jO C w p g L (Bs++ [b]):=by
 refine ⟨h.mem,fun a ha=> ?_, ?_, ?_⟩
 · rcases List.mem_append.1 ha with ha|ha
   · exact h.sg a ha
   · rw [List.mem_singleton.1 ha];exact k
 · rw [List.pairwise_append]
   exact ⟨h.ap,by simp,fun a ha z hz x hx hz2=>by rw [List.mem_singleton.1 hz] at hz2;exact hg x hz2 a ha hx⟩
 · rw [List.map_append,List.nodup_append]
   refine ⟨h.nd,by simp,fun x hx y hy e=> ?_⟩;obtain ⟨a,ha,rfl⟩:=List.mem_map.1 hx;have:y=b.X.pl:=by simpa using hy
   exact hp a ha (e.trans this)
end
structure Env {w0:World} (C:fH w0) (w:World) (p g q:Nat) (own:Nat→Prop) (L:List Nat) (A:St) (Bs:List SB):Prop where
 dJ:jO C w p g L Bs
 ar:bL w q own A
 size:A.S*16384=L.length
 jK: ∀b∈Bs,(b.X.pl,1)∈A.l
 ao: ∀k,own k→k≠p∧k≠g∧ ∀b∈Bs,¬BP b k
def EO (p g:Nat) (own:Nat→Prop) (Bs:List SB) (k:Nat):Prop:=k=p∨k=g∨own k∨ ∃b∈Bs,BP b k
section
variable {w0 w w':World} {C:fH w0} {p g q:Nat} {own:Nat→Prop} {L L' Y:List Nat} {A:St} {Bs l r:List SB} {b b':SB} {T:Nat→Prop}
theorem Env.lt (h:Env C w p g q own L A Bs) {k:Nat} (hk:EO p g own Bs k):k<w.heap.size:=by
 rcases hk with rfl|rfl|hk|⟨b,hb,hk⟩
 · exact h.dJ.mem.head.lt
 · exact h.dJ.mem.row.lt
 · exact h.ar.lt hk
 · exact h.dJ.lt hb hk
theorem Env.upd (h:Env C w p g q own L A Bs) (u:aH T w w') (hT: ∀k,T k→ ¬EO p g own Bs k):Env C w' p g q own L A Bs:=
 ⟨h.dJ.upd u fun k hk=>⟨fun e=>hT k hk (.inl e),fun e=>hT k hk (.inr (.inl e)),fun b hb x=>hT k hk (.inr (.inr (.inr ⟨b,hb,x⟩)))⟩,h.ar.upd u fun k hk x=>hT k x (.inr (.inr (.inl hk))),h.size,h.jK,h.ao⟩
theorem Env.grew (h:Env C w p g q own L A Bs) (hb:Below w.heap.size w w'):Env C w' p g q own L A Bs:=h.upd (ak hb) fun _ x=>x.elim
theorem Env.drew (h:Env C w p g q own L A Bs):Env C w.drew p g q own L A Bs:=h.grew (Below.refl _ _).drew
theorem Env.perm (h:Env C w p g q own L A Bs) {RX:List SB} (e:Bs.Perm RX):Env C w p g q own L A RX:=
 ⟨h.dJ.perm e,h.ar,h.size,fun b hb=>h.jK b (e.mem_iff.2 hb),fun k hk=>⟨(h.ao k hk).1,(h.ao k hk).2.1,fun b hb=>(h.ao k hk).2.2 b (e.mem_iff.2 hb)⟩⟩
theorem Env.turn (h:Env C w p g q own L A (l++b::r)) (k:Sg C.Int' w' b'.sp p g b'.I b'.c L' b'.X) (hpl:b'.X.pl=b.X.pl) (u:aH T w w') (hT: ∀x,T x→BP b x∨x=p∨x=g) (ha:Agree L L' Y) (hY: ∀y∈Y,b.X.pl*16384≤y∧y+8≤b.X.pl*16384+16384)
 (hg: ∀x,BP b' x→BP b x∨w.heap.size≤x):Env C w' p g q own L' A (l++b'::r):=by
 have hb:b∈l++b::r:=List.mem_append_right _ (List.mem_cons_self ..);have hmem: ∀a,a∈l++b'::r→a=b'∨a∈l++b::r:=fun a ha=>by
  rcases List.mem_append.1 ha with ha|ha
  · exact .inr (List.mem_append_left _ ha)
  · rcases List.mem_cons.1 ha with e|ha
    · exact .inl e
    · exact .inr (List.mem_append_right _ (List.mem_cons_of_mem _ ha))
 refine ⟨h.dJ.turn k hpl u hT ha hY hg,h.ar.upd u fun x hx ht=> ?_,by rw [ha.1];exact h.size,fun a ha=> ?_,fun x hx=>⟨(h.ao x hx).1,(h.ao x hx).2.1,fun a hx2 hp=> ?_⟩⟩
 · rcases hT x ht with e|e|e
   · exact (h.ao x hx).2.2 b hb e
   · exact (h.ao x hx).1 e
   · exact (h.ao x hx).2.1 e
 · rcases hmem a ha with rfl|ha
   · rw [hpl];exact h.jK b hb
   · exact h.jK a ha
 · rcases hmem a hx2 with rfl|hx2
   · rcases hg x hp with e|e
     · exact (h.ao x hx).2.2 b hb e
     · have:=h.ar.lt hx;omega
   · exact (h.ao x hx).2.2 a hx2 hp
end
end Go.Proofs.YtpibbcnkgdmcbaaGreatDoor
