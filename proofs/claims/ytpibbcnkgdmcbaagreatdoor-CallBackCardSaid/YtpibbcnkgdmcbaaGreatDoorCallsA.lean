/- CallsA: texts of layers below, joined (CallSys CallSeg CallFrame). -/
import Derived.Test.YtpibbcnkgdmcbaaGreatDoorHeapCl
import Derived.Test.YtpibbcnkgdmcbaaGreatDoorCallsJ
import Derived.Test.YtpibbcnkgdmcbaaGreatDoorCallMath
import Derived.Test.YtpibbcnkgdmcbaaGreatDoorCallSteps
set_option linter.unusedVariables false
set_option maxRecDepth 100000
namespace Go.Proofs.YtpibbcnkgdmcbaaGreatDoor
open Go.RowKit aC aF aG aI au aD aB aA bf
section
variable {α:Type} {B:Nat→List α} {R:List α} {t u:Nat}
def rO (B:Nat→α) (t:Nat) (b:α):Nat→α:=fun u=>if u=t then b else B u
theorem fE (B:Nat→α) (t:Nat) (b:α):rO B t b t=b:=if_pos rfl
theorem gP (B:Nat→α) {t u:Nat} (b:α) (h:u≠t):rO B t b u=B u:=if_neg h
def cu (B:Nat→List α) (R:List α):List α:=(List.range 8).flatMap B++R
def og (B:Nat→List α) (t:Nat) (R:List α):List α:=((List.range 8).filter fun u=>decide (u≠t)).flatMap B++R
theorem ES: ∀{l:List Nat},l.Nodup→t∈l→(l.flatMap B).Perm (B t++(l.filter fun u=>decide (u≠t)).flatMap B)
 | [],_,h=>by cases h
 |x::l,hn,h=>by
  have hn:=List.nodup_cons.1 hn;by_cases e:x=t
  · subst e
    have h2:(l.filter fun u=>decide (u≠x))=l:=List.filter_eq_self.2 fun a ha=>by
     have:a≠x:=fun e=>hn.1 (e▸ha)
     simpa using this
    rw [List.filter_cons_of_neg (by simp),h2];exact List.Perm.refl _
  · have h3:t∈l:=(List.mem_cons.1 h).elim (fun e2=>absurd e2.symm e) id
    rw [List.filter_cons_of_pos (by simpa using e),List.flatMap_cons,List.flatMap_cons];refine (List.Perm.append_left (B x) (ES hn.2 h3)).trans ?_;rw [←List.append_assoc,←List.append_assoc];exact List.Perm.append_right _ List.perm_append_comm
theorem mF (ht:t<8):(cu B R).Perm (B t++og B t R):=by
 unfold cu og;rw [←List.append_assoc];exact List.Perm.append_right R (ES List.nodup_range (List.mem_range.2 ht))
theorem qN: ∀{l:List Nat} {B B':Nat→List α},(∀u∈l,B u=B' u)→l.flatMap B=l.flatMap B'
 | [],_,_,_=>rfl
 |x::l,B,B',h=>by rw [List.flatMap_cons,List.flatMap_cons,h x (List.mem_cons_self ..),qN fun u hu=>h u (List.mem_cons_of_mem _ hu)]
theorem Le (b:List α):og (rO B t b) t R=og B t R:=by
 unfold og;rw [qN fun u hu=>gP B b (by simpa using (List.mem_filter.1 hu).2)]
theorem tC (ht:t<8) (b:List α):(cu (rO B t b) R).Perm (b++og B t R):=by
 have h:=mF (B:=rO B t b) (R:=R) ht;rw [fE,Le] at h;exact h
theorem iG {x:α}:x∈cu B R↔(∃t,t<8∧x∈B t)∨x∈R:=by
 unfold cu;rw [List.mem_append,List.mem_flatMap];exact or_congr ⟨fun ⟨t,h1,h2⟩=>⟨t,List.mem_range.1 h1,h2⟩,fun ⟨t,h1,h2⟩=>⟨t,List.mem_range.2 h1,h2⟩⟩ Iff.rfl
end
def DV (b:Option Nat):Value:= .pointer (b.map fun k=>⟨k,0,none⟩)
def tL (w:World) (s p q:Nat) (hb:Nat→Nat) (S:bP.SS) (hu:Nat→Nat) (nb:Nat→Option Nat):Prop:=
 ∃cs,aV w s 68 cs∧cs[0]? =some (.pointer (some ⟨p,0,none⟩))∧cs[1]? =some (.pointer (some ⟨q,0,none⟩))∧
  (cs[2]? =some (.int .u64 (bP.mM S.L:Nat))∧cs[3]? =some (.int .u64 (S.t:Nat))∧cs[4]? =some (.int .i64 (S.n:Nat))∧ ∀x,x<64→cs[5+x]? =some (.int .u64 (S.B x:Nat)))∧
  (∀t,t<8→cs[69+t]? =some (.pointer (some ⟨hb t,0,none⟩)))∧(∀i,i<64→cs[77+i]? =some (.int .i64 (hu i:Nat)))∧ ∀i,i<64→cs[141+i]? =some (DV (nb i))
section
variable {w w':World} {s p q:Nat} {hb:Nat→Nat} {S S':bP.SS} {hu:Nat→Nat} {nb:Nat→Option Nat} {T:Nat→Prop}
theorem tL.lt (h:tL w s p q hb S hu nb):s<w.heap.size:=by obtain ⟨cs,k,_⟩:=h;exact k.lt
theorem tL.frozen (h:tL w s p q hb S hu nb) (i:Nat):w.frozen? ⟨s,i,none⟩=false:=by obtain ⟨cs,k,_⟩:=h;exact k.frozen i
theorem tL.upd (h:tL w s p q hb S hu nb) (u:aH T w w') (ht: ¬T s):tL w' s p q hb S hu nb:=by obtain ⟨cs,k,e⟩:=h;exact ⟨cs,k.upd u ht,e⟩
theorem tL.c0 (h:tL w s p q hb S hu nb):w.cell? ⟨s,0,none⟩=some (.pointer (some ⟨p,0,none⟩)):=by obtain ⟨cs,k,e,_⟩:=h;rw [k.cell];exact e
theorem tL.c1 (h:tL w s p q hb S hu nb):w.cell? ⟨s,1,none⟩=some (.pointer (some ⟨q,0,none⟩)):=by obtain ⟨cs,k,_,e,_⟩:=h;rw [k.cell];exact e
theorem tL.heap (h:tL w s p q hb S hu nb) {t:Nat} (ht:t<8):w.cell? ⟨s,69+t,none⟩=some (.pointer (some ⟨hb t,0,none⟩)):=by obtain ⟨cs,k,_,_,_,e,_⟩:=h;rw [k.cell];exact e t ht
theorem tL.huge (h:tL w s p q hb S hu nb) {i:Nat} (hi:i<64):w.cell? ⟨s,77+i,none⟩=some (.int .i64 (hu i:Nat)):=by obtain ⟨cs,k,_,_,_,_,e,_⟩:=h;rw [k.cell];exact e i hi
theorem tL.nobody (h:tL w s p q hb S hu nb) {i:Nat} (hi:i<64):w.cell? ⟨s,141+i,none⟩=some (DV (nb i)):=by obtain ⟨cs,k,_,_,_,_,_,e⟩:=h;rw [k.cell];exact e i hi
theorem tL.sk (h:tL w s p q hb S hu nb):SK w s 2 S:=by
 obtain ⟨cs,k,_,_,⟨e0,e1,e2,e3⟩,_⟩:=h;exact ⟨_,cs,k,e0,e1,e2,e3⟩
theorem tL.turn (h:tL w s p q hb S hu nb) (k:SK w' s 2 S') (W:dA (fun _=>False) (Yq s 2) w w'):tL w' s p q hb S' hu nb:=by
 obtain ⟨cs,kb,e0,e1,e2,e3,e4,e5⟩:=h;obtain ⟨cs',k',hz,e'⟩:=W.blk s id _ cs kb;obtain ⟨ty2,cs2,k2,f0,f1,f2,f3⟩:=k;have:some (Obj.cells cs' 68 (0,0))=some (Obj.cells cs2 ty2 (0,0)):=k'.symm.trans k2;injection this with this
 injection this with g1 g2 g3
 subst g1 g2;refine ⟨cs',k', ?_, ?_,⟨f0,f1,f2,f3⟩,fun t ht=> ?_,fun i hi=> ?_,fun i hi=> ?_⟩
 · rw [e' 0 fun hc=>by have:=hc.2;omega];exact e0
 · rw [e' 1 fun hc=>by have:=hc.2;omega];exact e1
 · rw [e' _ fun hc=>by have:=hc.2;omega];exact e3 t ht
 · rw [e' _ fun hc=>by have:=hc.2;omega];exact e4 i hi
 · rw [e' _ fun hc=>by have:=hc.2;omega];exact e5 i hi
theorem tL.wz (h:tL w s p q hb S hu nb) {j:Nat} (hj:j<64) {v:Nat} {V:Int} (hV:V=(v:Int)):tL (w.setCell ⟨s,77+j,none⟩ (.int .i64 V)) s p q hb S (fun i=>if i=j then v else hu i) nb:=by
 subst hV;obtain ⟨cs,k,e0,e1,⟨a0,a1,a2,a3⟩,e3,e4,e5⟩:=h;refine ⟨_,k.put (77+j) _, ?_, ?_,⟨?_, ?_, ?_,fun x hx=> ?_⟩,fun t ht=> ?_,fun i hi=> ?_,fun i hi=> ?_⟩
 · rw [Array.getElem?_setIfInBounds,if_neg (by omega)];exact e0
 · rw [Array.getElem?_setIfInBounds,if_neg (by omega)];exact e1
 · rw [Array.getElem?_setIfInBounds,if_neg (by omega)];exact a0
 · rw [Array.getElem?_setIfInBounds,if_neg (by omega)];exact a1
 · rw [Array.getElem?_setIfInBounds,if_neg (by omega)];exact a2
 · rw [Array.getElem?_setIfInBounds,if_neg (by omega)];exact a3 x hx
 · rw [Array.getElem?_setIfInBounds,if_neg (by omega)];exact e3 t ht
 · by_cases hij:i=j
   · subst hij
     obtain ⟨l,_⟩:=Array.getElem?_eq_some_iff.1 (e4 i hi);rw [Array.getElem?_setIfInBounds_self_of_lt l];simp
   · rw [Array.getElem?_setIfInBounds,if_neg (by omega)];simp only [if_neg hij];exact e4 i hi
 · rw [Array.getElem?_setIfInBounds,if_neg (by omega)];exact e5 i hi
end
def C9 (s p g:Nat) (own:Nat→Prop) (O:Nat→Nat→Prop) (Bs:List SB) (k:Nat):Prop:=k=s∨EO p g own Bs k∨ ∃t,t<8∧O t k
structure qy {w0:World} (C:fH w0) (K:kW w0 C) (s p q:Nat) (hb:Nat→Nat) (g:Nat) (own:Nat→Prop) (O:Nat→Nat→Prop) (B:Nat→List SB) (R:List SB) (P:SY) (L:List Nat) (w:World):Prop where
 cs:tL w s p q hb P.S P.hu P.nb
 env:Env C w p g q own L P.A (cu B R)
 hp: ∀t,t<8→K.Hp w (hb t) (O t) (t+1) p q (gM (B t)) (P.H t).Q
 hB: ∀t,t<8→((B t).map fun b=>b.X)=(P.H t).B
 hR:(R.map fun b=>b.X)=P.N
 good: ∀t,t<8→aO (P.H t)
 ap: ∀t,t<8→ ∀k,O t k→ ¬EO p g own (cu B R) k
 two: ∀t u,t<8→u<8→t≠u→ ∀k,O t k→ ¬O u k
 so: ¬EO p g own (cu B R) s∧ ∀t,t<8→ ¬O t s
 Vz: ∀b∈R,P.nb b.X.pl=some b.sp
 RZ: ∀i,i<64→P.hu i≤64
 VB: ∀i,i<64→ ∀x,P.nb i=some x→ ∃b∈R,b.X.pl=i∧b.sp=x
 lo: ∀k,C9 s p g own O (cu B R) k→w0.heap.size≤k
structure OS {w0:World} (C:fH w0) (K:kW w0 C) (s p q:Nat) (hb:Nat→Nat) (P:SY) (L:List Nat) (S:Nat→Prop) (w:World):Prop where
 ex: ∃g own O B R,qy C K s p q hb g own O B R P L w∧ ∀k,C9 s p g own O (cu B R) k→ ¬S k
 below:Below w0.heap.size w0 w
 lt: ∀k,S k→k<w.heap.size
 lo: ∀k,S k→w0.heap.size≤k
section
variable {w0 w w':World} {C:fH w0} {K:kW w0 C} {s p q g t:Nat} {hb:Nat→Nat} {own:Nat→Prop} {O:Nat→Nat→Prop} {B:Nat→List SB} {R:List SB} {P:SY} {L L':List Nat} {S T:Nat→Prop} {A':St} {H':HS} {M:List Nat→Prop}
theorem CX {Bs RX:List SB} (h: ∀b,b∈Bs↔b∈RX) {k:Nat}:EO p g own Bs k↔EO p g own RX k:=by
 unfold EO;exact or_congr Iff.rfl (or_congr Iff.rfl (or_congr Iff.rfl ⟨fun ⟨b,hb,x⟩=>⟨b,(h b).1 hb,x⟩,fun ⟨b,hb,x⟩=>⟨b,(h b).2 hb,x⟩⟩))
theorem qy.lt (z:qy C K s p q hb g own O B R P L w) {k:Nat} (hk:C9 s p g own O (cu B R) k):k<w.heap.size:=by
 rcases hk with rfl|hk|⟨t,ht,hk⟩
 · exact z.cs.lt
 · exact z.env.lt hk
 · exact (K.num (z.hp t ht)).2.1 k hk
theorem qy.hz (z:qy C K s p q hb g own O B R P L w) (ht:t<8):Hz C K.Hp w (hb t) (O t) (t+1) p g q own L P.A (B t) (og B t R) (P.H t).Q where
 hp:=z.hp t ht
 env:=z.env.perm (mF ht)
 good:=by unfold aN;rw [z.hB t ht];exact z.good t ht
 ap k hk x:=z.ap t ht k hk ((CX fun b=>(mF ht).mem_iff).2 x)
 lo k hk:=z.lo k (hk.elim (fun x=> .inr (.inr ⟨t,ht,x⟩)) fun x=> .inr (.inl ((CX fun b=>(mF ht).mem_iff).2 x)))
theorem qy.hs (z:qy C K s p q hb g own O B R P L w) (ht:t<8):aN (B t) (P.H t).Q=P.H t:=by unfold aN;rw [z.hB t ht]
theorem qy.upd (z:qy C K s p q hb g own O B R P L w) (u:aH T w w') (hT: ∀k,T k→ ¬C9 s p g own O (cu B R) k):qy C K s p q hb g own O B R P L w':=
 ⟨z.cs.upd u fun x=>hT s x (.inl rfl),z.env.upd u fun k hk x=>hT k hk (.inr (.inl x)),fun t ht=>K.upd (z.hp t ht) u fun k hk x=>hT k hk (.inr (.inr ⟨t,ht,x⟩)),z.hB,z.hR,z.good,z.ap,z.two,z.so,z.Vz,z.RZ,z.VB,z.lo⟩
theorem qy.turned (z:qy C K s p q hb g own O B R P L w) (ht:t<8) (k:Turned C K.Hp w (hb t) (O t) (t+1) p g q own L (B t) (og B t R) w' H' A' M):
 ∃own' O' B' L',qy C K s p q hb g own' O' B' R (P.oo t H' A') L' w'∧L'.length=L.length∧M L'∧(∀k,C9 s p g own' O' (cu B' R) k→C9 s p g own O (cu B R) k∨w.heap.size≤k)∧aH (C9 s p g own O (cu B R)) w w':=by
 obtain ⟨O1,own',L',B1,hz,hB,hl,hM,hg,u⟩:=k;have hsub: ∀k,HO p g own (O t) (B t) k→C9 s p g own O (cu B R) k:=fun k hk=>by
  rcases hk with x|x|x|x|⟨b,hb,x⟩
  · exact .inr (.inr ⟨t,ht,x⟩)
  · exact .inr (.inl (.inl x))
  · exact .inr (.inl (.inr (.inl x)))
  · exact .inr (.inl (.inr (.inr (.inl x))))
  · exact .inr (.inl (.inr (.inr (.inr ⟨b,iG.2 (.inl ⟨t,ht,hb⟩),x⟩))))
 have hin: ∀b,b∈cu (rO B t B1) R↔b∈B1∨b∈og B t R:=fun b=>(tC ht B1).mem_iff.trans List.mem_append;have hold: ∀b,b∈cu B R↔b∈B t∨b∈og B t R:=fun b=>(mF ht).mem_iff.trans List.mem_append;have hE: ∀k,EO p g own' (cu (rO B t B1) R) k→EO p g own (cu B R) k∨w.heap.size≤k∨O t k:=fun k hk=>by
  rcases hk with x|x|x|⟨b,hb,x⟩
  · exact .inl (.inl x)
  · exact .inl (.inr (.inl x))
  · rcases hg k (.inr (.inr (.inr (.inl x)))) with y|y
    · rcases y with y|y|y|y|⟨a,ha,y⟩
      · exact .inr (.inr y)
      · exact .inl (.inl y)
      · exact .inl (.inr (.inl y))
      · exact .inl (.inr (.inr (.inl y)))
      · exact .inl (.inr (.inr (.inr ⟨a,(hold a).2 (.inl ha),y⟩)))
    · exact .inr (.inl y)
  · rcases (hin b).1 hb with hb|hb
    · rcases hg k (.inr (.inr (.inr (.inr ⟨b,hb,x⟩)))) with y|y
      · rcases y with y|y|y|y|⟨a,ha,y⟩
        · exact .inr (.inr y)
        · exact .inl (.inl y)
        · exact .inl (.inr (.inl y))
        · exact .inl (.inr (.inr (.inl y)))
        · exact .inl (.inr (.inr (.inr ⟨a,(hold a).2 (.inl ha),y⟩)))
      · exact .inr (.inl y)
    · exact .inl (.inr (.inr (.inr ⟨b,(hold b).2 (.inr hb),x⟩)))
 have Yj: ∀k,O1 k→O t k∨EO p g own (B t) k∨w.heap.size≤k:=fun k hk=>(hg k (.inl hk)).elim (fun x=>x.elim .inl fun y=> .inr (.inl y)) fun x=> .inr (.inr x);have Yl: ∀k,EO p g own (B t) k→EO p g own (cu B R) k:=fun k hk=>by
  rcases hk with x|x|x|⟨b,hb,x⟩
  · exact .inl x
  · exact .inr (.inl x)
  · exact .inr (.inr (.inl x))
  · exact .inr (.inr (.inr ⟨b,(hold b).2 (.inl hb),x⟩))
 have Zm: ∀u,u<8→u≠t→ ∀k,O u k→ ¬HO p g own (O t) (B t) k:=fun u hu hne k hk x=>by
  rcases x with x|x
  · exact z.two u t hu ht hne k hk x
  · exact z.ap u hu k hk (Yl k x)
 refine ⟨own',rO O t O1,rO B t B1,L',⟨z.cs.upd u fun x=> ?_,hz.env.perm (tC ht B1).symm,fun v hv=> ?_,fun v hv=> ?_,z.hR,fun v hv=> ?_,fun v hv k hk x=> ?_,fun v v2 hv hv2 hne k hk x=> ?_,⟨fun x=> ?_,fun v hv x=> ?_⟩,z.Vz,z.RZ,z.VB,fun k hk=> ?_⟩,hl,hM,fun k hk=> ?_,u.mono hsub⟩
 · rcases x with x|x
   · exact z.so.2 t ht x
   · exact z.so.1 (Yl s x)
 · by_cases e:v=t
   · subst e
     rw [fE,fE,jo];exact hz.hp
   · rw [gP O O1 e,gP B B1 e,wB P H' A' e]
     exact K.upd (z.hp v hv) u fun k hk x=>Zm v hv e k x hk
 · by_cases e:v=t
   · subst e
     rw [fE,jo];exact hB
   · rw [gP B B1 e,wB P H' A' e];exact z.hB v hv
 · by_cases e:v=t
   · subst e
     rw [jo];have:=hz.good;unfold aN at this;rw [hB] at this;exact this
   · rw [wB P H' A' e];exact z.good v hv
 · by_cases e:v=t
   · subst e
     rw [fE] at hk;exact hz.ap k hk ((CX fun b=>(tC ht B1).mem_iff).1 x)
   · rw [gP O O1 e] at hk
     have hlt:=(K.num (z.hp v hv)).2.1 k hk;rcases hE k x with y|y|y
     · exact z.ap v hv k hk y
     · omega
     · exact z.two v t hv ht e k hk y
 · by_cases e:v=t
   · subst e
     rw [fE] at hk;rw [gP O O1 (fun e=>hne e.symm)] at x;have hlt:=(K.num (z.hp v2 hv2)).2.1 k x;rcases Yj k hk with y|y|y
     · exact z.two v v2 hv hv2 hne k y x
     · exact z.ap v2 hv2 k x (Yl k y)
     · omega
   · rw [gP O O1 e] at hk
     have hlt:=(K.num (z.hp v hv)).2.1 k hk;by_cases e2:v2=t
     · subst e2
       rw [fE] at x;rcases Yj k x with y|y|y
       · exact z.two v v2 hv hv2 hne k hk y
       · exact z.ap v hv k hk (Yl k y)
       · omega
     · rw [gP O O1 e2] at x
       exact z.two v v2 hv hv2 hne k hk x
 · rcases hE s x with y|y|y
   · exact z.so.1 y
   · have:=z.cs.lt;omega
   · exact z.so.2 t ht y
 · by_cases e:v=t
   · subst e
     rw [fE] at x;rcases Yj s x with y|y|y
     · exact z.so.2 v ht y
     · exact z.so.1 (Yl s y)
     · have:=z.cs.lt;omega
   · rw [gP O O1 e] at x
     exact z.so.2 v hv x
 · rcases hk with hk|hk|⟨v,hv,hk⟩
   · exact z.lo k (.inl hk)
   · exact hz.lo k (.inr ((CX fun b=>(tC ht B1).mem_iff).1 hk))
   · by_cases e:v=t
     · subst e
       rw [fE] at hk;exact hz.lo k (.inl hk)
     · rw [gP O O1 e] at hk
       exact z.lo k (.inr (.inr ⟨v,hv,hk⟩))
 · rcases hk with hk|hk|⟨v,hv,hk⟩
   · exact .inl (.inl hk)
   · rcases hE k hk with y|y|y
     · exact .inl (.inr (.inl y))
     · exact .inr y
     · exact .inl (.inr (.inr ⟨t,ht,y⟩))
   · by_cases e:v=t
     · subst e
       rw [fE] at hk;rcases Yj k hk with y|y|y
       · exact .inl (.inr (.inr ⟨v,hv,y⟩))
       · exact .inl (.inr (.inl (Yl k y)))
       · exact .inr y
     · rw [gP O O1 e] at hk
       exact .inl (.inr (.inr ⟨v,hv,hk⟩))
theorem OS.grew (z:OS C K s p q hb P L S w) (h:Below w.heap.size w w'):OS C K s p q hb P L S w':=by
 obtain ⟨⟨g,own,O,B,R,z1,z2⟩,h5,h6,h7⟩:=z;exact ⟨⟨g,own,O,B,R,z1.upd (ak h) fun _ x=>x.elim,z2⟩,ah h5 h5.size h,fun k hk=>Nat.lt_of_lt_of_le (h6 k hk) h.size,h7⟩
theorem OS.drew (z:OS C K s p q hb P L S w):OS C K s p q hb P L S w.drew:=z.grew (Below.refl _ _).drew
theorem OS.alloc (z:OS C K s p q hb P L S w) (o:Obj):OS C K s p q hb P L S (w.alloc o):=z.grew ((Below.refl _ _).alloc (Nat.le_refl _) o)
theorem OS.upd (z:OS C K s p q hb P L S w) (u:aH T w w') (hT: ∀k,T k→S k):OS C K s p q hb P L S w':=by
 obtain ⟨⟨g,own,O,B,R,z1,z2⟩,h5,h6,h7⟩:=z;exact ⟨⟨g,own,O,B,R,z1.upd u fun k hk x=>z2 k x (hT k hk),z2⟩,h5.trans (u.below (fun k hk=>h7 k (hT k hk)) h5.size),fun k hk=>Nat.lt_of_lt_of_le (h6 k hk) u.size,h7⟩
theorem OS.ours (z:OS C K s p q hb P L S w) (h:Below w.heap.size w w'):OS C K s p q hb P L (fun k=>S k∨(w.heap.size≤k∧k<w'.heap.size)) w':=by
 have z':=z.grew h;obtain ⟨⟨g,own,O,B,R,z1,z2⟩,h5,h6,h7⟩:=z;refine ⟨⟨g,own,O,B,R,z1.upd (ak h) fun _ x=>x.elim,fun k hk e=> ?_⟩,z'.below,fun k hk=>hk.elim (z'.lt k) fun e=>e.2,fun k hk=>hk.elim (h7 k) fun e=>Nat.le_trans h5.size e.1⟩;rcases e with e|e
 · exact z2 k hk e
 · have:=z1.lt hk;omega
theorem OS.turned (h1:qy C K s p q hb g own O B R P L w) (h2: ∀k,C9 s p g own O (cu B R) k→ ¬S k) (hb0:Below w0.heap.size w0 w) (hS: ∀k,S k→k<w.heap.size) (hlo: ∀k,S k→w0.heap.size≤k) (ht:t<8) (k:Turned C K.Hp w (hb t) (O t) (t+1) p g q own L (B t) (og B t R) w' H' A' M):
 ∃L',OS C K s p q hb (P.oo t H' A') L' S w'∧L'.length=L.length∧M L'∧Still S w w':=by
 obtain ⟨own',O',B',L',z,hl,hM,hg,u⟩:=h1.turned ht k;have u2:Still S w w':=u.mono fun k hk=>h2 k hk;refine ⟨L',⟨⟨g,own',O',B',R,z,fun k hk e=> ?_⟩,hb0.trans (u.below (fun k hk=>h1.lo k hk) hb0.size),fun k hk=>Nat.lt_of_lt_of_le (hS k hk) u.size,hlo⟩,hl,hM,u2⟩;rcases hg k hk with x|x
 · exact h2 k x e
 · have:=hS k e;omega
theorem Ol (z:OS C K s p q hb P L S w) (ht:t<8) {c:Int} (hc:dH c):
 Calls Tryz.prog 75 #[.pointer (some ⟨hb t,0,none⟩), .int .i64 c] w fun e w'=>e= .returned (.tuple #[.int .u64 ((bF (P.H t) c).2.1:Int), .int .i64 (bF (P.H t) c).2.2.1])∧ ∃L',OS C K s p q hb (P.oo t (bF (P.H t) c).1 P.A) L' S w'∧L'.length=L.length∧Agree L L' (bF (P.H t) c).2.2.2∧Still S w w':=by
 obtain ⟨⟨g,own,O,B,R,z1,z2⟩,h5,h6,h7⟩:=z;refine (K.local' w h5 (z1.hz ht) hc).mono fun e w' k=> ?_;rw [z1.hs ht] at k;exact ⟨k.1,OS.turned z1 z2 h5 h6 h7 ht k.2⟩
theorem Bp (z:OS C K s p q hb P L S w) (ht:t<8) {c sl sg:Int} {us:Nat} (h1:dH c) (h2:dH sl) (h3:dH sg) (h4:bM us) (hbad:eX c sl):
 Calls Tryz.prog 78 #[.pointer (some ⟨hb t,0,none⟩), .agg #[.int .i64 c, .int .i64 sl, .int .i64 sg, .int .u64 (us:Int)]] w fun e w'=>e= .returned (.tuple #[.int .u64 0, .int .i64 2])∧Below w.heap.size w w':=by
 obtain ⟨⟨g,own,O,B,R,z1,z2⟩,h5,h6,h7⟩:=z;exact K.AJ w h5 (z1.hz ht) h1 h2 h3 h4 hbad
theorem zI (z:OS C K s p q hb P L S w) (ht:t<8) {c sl sg:Int} {us:Nat} (h1:dH c) (h2:dH sl) (h3:dH sg) (h4:bM us) (hbad: ¬eX c sl) (hr:iX (P.H t) (dZ c sl.toNat)=none):
 Calls Tryz.prog 78 #[.pointer (some ⟨hb t,0,none⟩), .agg #[.int .i64 c, .int .i64 sl, .int .i64 sg, .int .u64 (us:Int)]] w fun e w'=>e= .returned (.tuple #[.int .u64 0, .int .i64 4])∧Below w.heap.size w w':=by
 obtain ⟨⟨g,own,O,B,R,z1,z2⟩,h5,h6,h7⟩:=z;exact K.qL w h5 (z1.hz ht) h1 h2 h3 h4 hbad (by rw [z1.hs ht];exact hr)
theorem Om (z:OS C K s p q hb P L S w) (ht:t<8) {c sl sg:Int} {us a:Nat} {X:SG} (h1:dH c) (h2:dH sl) (h3:dH sg) (h4:bM us) (hbad: ¬eX c sl) (hr:iX (P.H t) (dZ c sl.toNat)=some (X,a)):
 Calls Tryz.prog 78 #[.pointer (some ⟨hb t,0,none⟩), .agg #[.int .i64 c, .int .i64 sl, .int .i64 sg, .int .u64 (us:Int)]] w fun e w'=> ∃op pp,e= .returned (.tuple #[.int .u64 (aL X.pl a:Int), .int .i64 0])∧w.heap.size≤op∧w.heap.size≤pp∧
  ∃L',OS C K s p q hb (P.oo t (jM (P.H t) X op pp c sl.toNat a) P.A) L' S w'∧L'.length=L.length∧Agree L L' (b_ (bR (aL X.pl a) (bQ c sl.toNat) (h_ c)))∧Still S w w':=by
 obtain ⟨⟨g,own,O,B,R,z1,z2⟩,h5,h6,h7⟩:=z;have kk:=K.fresh w h5 (z1.hz ht) h1 h2 h3 h4 hbad (X:=X) (a:=a) (by rw [z1.hs ht];exact hr);refine kk.mono ?_;rintro e w' ⟨op,pp,k1,k2,k3,k4⟩;rw [z1.hs ht] at k4;exact ⟨op,pp,k1,k2,k3,OS.turned z1 z2 h5 h6 h7 ht k4⟩
theorem Jq (z:OS C K s p q hb P L S w) (ht:t<8) (hr:P.A.r≤1000000000000):
 Calls Tryz.prog 86 #[.pointer (some ⟨hb t,0,none⟩)] w fun e w'=>e= .returned (.int .i64 (cZ (P.H t) P.A (t+1)).2.1)∧ ∃L',OS C K s p q hb (P.oo t (cZ (P.H t) P.A (t+1)).1 (cZ (P.H t) P.A (t+1)).2.2) L' S w'∧L'.length=L.length∧L'=L∧Still S w w':=by
 obtain ⟨⟨g,own,O,B,R,z1,z2⟩,h5,h6,h7⟩:=z;refine (K.grow w h5 (z1.hz ht) hr).mono fun e w' k=> ?_;rw [z1.hs ht] at k;exact ⟨k.1,OS.turned z1 z2 h5 h6 h7 ht k.2⟩
theorem S_ (z:OS C K s p q hb P L S w) (ht:t<8) {a:Nat} (ha:bM a) (hf: ∀X o,dO (P.H t) a=some (X,o)→dN o.P a=0→a∉o.P.F∧a∉o.P.G):
 Calls Tryz.prog 90 #[.pointer (some ⟨hb t,0,none⟩), .int .u64 (a:Int)] w fun e w'=>e= .returned (.int .i64 (fJ (P.H t) P.A a).2)∧ ∃L',OS C K s p q hb (P.oo t (fJ (P.H t) P.A a).1.1 (fJ (P.H t) P.A a).1.2) L' S w'∧L'.length=L.length∧(Agree L L' [a]∧ ∀X o,dO (P.H t) a=some (X,o)→aJ L' (bg o.P a).1)∧Still S w w':=by
 obtain ⟨⟨g,own,O,B,R,z1,z2⟩,h5,h6,h7⟩:=z;refine (K.free w h5 (z1.hz ht) ha (by rw [z1.hs ht];exact hf)).mono fun e w' k=> ?_;rw [z1.hs ht] at k;exact ⟨k.1,OS.turned z1 z2 h5 h6 h7 ht k.2⟩
theorem Dl (z:OS C K s p q hb P L S w) (ht:t<8) {v:Value} {cs:List Int} (ha:iF w v cs) (hl:cs.length≤1000):
 Calls Tryz.prog 59 #[.pointer (some ⟨hb t,0,none⟩),v] w fun e w'=> ∃a k cap,e= .returned (.slice a k cap)∧Seq Elem.jl w' (.slice a k cap) (iD (P.H t) cs)∧k≤cap∧cap≤9223372036854775807∧(∀b,In (.slice a k cap) b→w.heap.size≤b)∧Below w.heap.size w w':=by
 obtain ⟨⟨g,own,O,B,R,z1,z2⟩,h5,h6,h7⟩:=z;have k:=K.pages w h5 (z1.hz ht) ha hl;rw [z1.hs ht] at k;exact k
end
end Go.Proofs.YtpibbcnkgdmcbaaGreatDoor
namespace Go.Proofs.YtpibbcnkgdmcbaaGreatDoor
open Go.RowKit aC aF aG aI au aD aB aA bf
section
variable {H:HS} {X X':SG}
theorem KX (h:Gj X'=Gj X) {i:Nat} {k:Int}:(∃o∈X'.L,qi o.cls=i∧k=aD.keyOf X' o)↔ ∃o∈X.L,qi o.cls=i∧k=aD.keyOf X o:=by
 unfold Gj at h;injection h with e1 e2
 have key: ∀{Y Z:SG},Y.pl=Z.pl→(Y.L.map fun o=>(o.op,o.pp,o.cls,o.lo,o.wd))=(Z.L.map fun o=>(o.op,o.pp,o.cls,o.lo,o.wd))→(∃o∈Y.L,qi o.cls=i∧k=aD.keyOf Y o)→ ∃o∈Z.L,qi o.cls=i∧k=aD.keyOf Z o:=fun {Y Z} hp he ⟨o,ho,h1,h2⟩=>by
  have hm:(o.op,o.pp,o.cls,o.lo,o.wd)∈Z.L.map fun o=>(o.op,o.pp,o.cls,o.lo,o.wd):=he▸List.mem_map.2 ⟨o,ho,rfl⟩;obtain ⟨u,hu,e⟩:=List.mem_map.1 hm;injection e with a1 e
  injection e with a2 e
  injection e with a3 e
  injection e with a4 a5
  refine ⟨u,hu,by rw [a3];exact h1, ?_⟩;rw [h2];unfold aD.keyOf;rw [hp,a4]
 exact ⟨key e1 e2,key e1.symm e2.symm⟩
theorem aO.same (g:aO H) (hX:X∈H.B) (h:Gj X'=Gj X) (g':GoodS X'):aO (H.eu X'):=by
 have e1:X'.pl=X.pl:=by unfold Gj at h;injection h
 refine g.turn hX e1 g' rfl g.q fun i k=> ?_;rw [KX h];show k∈(H.Q i).all↔_;constructor
 · intro h1
   by_cases h2: ∃o∈X.L,qi o.cls=i∧k=aD.keyOf X o
   · exact .inl h2
   · exact .inr ⟨h1,h2⟩
 · rintro (h1|h1)
   · exact (g.mem i k).2 ⟨X,hX,h1⟩
   · exact h1.1
theorem K_ (h: ∀Y∈H.B,Y.pl≠X'.pl):H.eu X'=H:=by
 have:(H.B.map fun Y=>if Y.pl=X'.pl then X' else Y)=H.B:=by
  conv=>rhs;rw [←List.map_id H.B]
  exact List.map_congr_left fun Y hY=>if_neg (h Y hY)
 unfold HS.eu;rw [this]
end
def YL (N:List SG) (X:SG):List SG:=N.map fun Y=>if Y.pl=X.pl then X else Y
def _root_.Go.Proofs.YtpibbcnkgdmcbaaGreatDoor.bf.SY.WB (P:SY) (X:SG):SY:={P with H:=fun t=>(P.H t).eu X,N:=YL P.N X}
def gL (b':SB) (a:SB):SB:=if a.X.pl=b'.X.pl then b' else a
section
variable {w0 w w':World} {C:fH w0} {K:kW w0 C} {s p q g t:Nat} {hb:Nat→Nat} {own:Nat→Prop} {O:Nat→Nat→Prop} {B:Nat→List SB} {R:List SB} {P:SY} {L L' Y:List Nat} {S T:Nat→Prop} {b b':SB}
theorem mR: ∀{l:List SB},(l.map fun b=>b.X.pl).Nodup→ ∀{a b:SB},a∈l→b∈l→a.X.pl=b.X.pl→a=b
 | [],_,a,b,h,_,_=>by cases h
 |x::l,hn,a,b,ha,hb,e=>by
  rw [List.map_cons,List.nodup_cons] at hn;rcases List.mem_cons.1 ha with rfl|ha2
  · rcases List.mem_cons.1 hb with rfl|hb2
    · rfl
    · exact absurd (List.mem_map.2 ⟨b,hb2,e.symm⟩) hn.1
  · rcases List.mem_cons.1 hb with rfl|hb2
    · exact absurd (List.mem_map.2 ⟨a,ha2,e⟩) hn.1
    · exact mR hn.2 ha2 hb2 e
theorem Rm {α β:Type} (f:α→β) (B:Nat→List α) (R:List α):cu (fun u=>(B u).map f) (R.map f)=(cu B R).map f:=by
 unfold cu;rw [List.map_append,List.map_flatMap]
theorem Gf (h:jO C w p g L (cu B R)) (hm:b∈cu B R) (hpl:b'.X.pl=b.X.pl): ∃l r,cu B R=l++b::r∧(cu B R).map (gL b')=l++b'::r:=by
 obtain ⟨l,r,e⟩:=List.append_of_mem hm;refine ⟨l,r,e, ?_⟩;have hn:=h.nd;rw [e,List.map_append,List.map_cons,List.nodup_append,List.nodup_cons] at hn;have h1:l.map (gL b')=l:=by
  conv=>rhs;rw [←List.map_id l]
  exact List.map_congr_left fun a ha=>if_neg fun e2=>hn.2.2 _ (List.mem_map.2 ⟨a,ha,rfl⟩) _ (List.mem_cons_self ..) (e2.trans hpl)
 have h2:r.map (gL b')=r:=by
  conv=>rhs;rw [←List.map_id r]
  exact List.map_congr_left fun a ha=>if_neg fun e2=>hn.2.1.1 (List.mem_map.2 ⟨a,ha,e2.trans hpl⟩)
 rw [e,List.map_append,List.map_cons,h1,h2];unfold gL;rw [if_pos hpl.symm]
theorem Ei (l:List SB):(l.map (gL b')).map (fun a=>a.X)=(l.map fun a=>a.X).map fun Y=>if Y.pl=b'.X.pl then b'.X else Y:=by
 rw [List.map_map,List.map_map];refine List.map_congr_left fun a _=> ?_;show (gL b' a).X=if a.X.pl=b'.X.pl then b'.X else a.X
 unfold gL;split
 · rfl
 · rfl
theorem qy.YD (z:qy C K s p q hb g own O B R P L w) (hm:b∈cu B R) (k:Sg C.Int' w' b'.sp p g b'.I b'.c L' b'.X) (hsp:b'.sp=b.sp) (hsk:Gj b'.X=Gj b.X) (u:aH T w w') (hT: ∀x,T x→BP b x∨x=p∨x=g) (ha:Agree L L' Y) (hY: ∀y∈Y,b.X.pl*16384≤y∧y+8≤b.X.pl*16384+16384)
 (hg: ∀x,BP b' x→BP b x∨w.heap.size≤x):qy C K s p q hb g own O (fun u=>(B u).map (gL b')) (R.map (gL b')) (P.WB b'.X) L' w'∧(∀x,C9 s p g own O (cu (fun u=>(B u).map (gL b')) (R.map (gL b'))) x→C9 s p g own O (cu B R) x∨w.heap.size≤x):=by
 have hpl:b'.X.pl=b.X.pl:=by unfold Gj at hsk;injection hsk
 obtain ⟨l,r,e1,e2⟩:=Gf z.env.dJ hm hpl;have Zw:=z.env;rw [e1] at Zw;have abV:=Zw.turn k hpl u hT ha hY hg;have ZG: ∀x,T x→EO p g own (cu B R) x:=fun x hx=>by
  rcases hT x hx with y|y|y
  · exact .inr (.inr (.inr ⟨b,hm,y⟩))
  · exact .inl y
  · exact .inr (.inl y)
 have hEb: ∀x,EO p g own (l++b'::r) x→EO p g own (cu B R) x∨w.heap.size≤x:=fun x hx=>by
  rcases hx with y|y|y|⟨a,ha2,y⟩
  · exact .inl (.inl y)
  · exact .inl (.inr (.inl y))
  · exact .inl (.inr (.inr (.inl y)))
  · rcases List.mem_append.1 ha2 with h|h
    · exact .inl (.inr (.inr (.inr ⟨a,by rw [e1];exact List.mem_append_left _ h,y⟩)))
    · rcases List.mem_cons.1 h with rfl|h
      · exact (hg x y).imp (fun y=> .inr (.inr (.inr ⟨b,hm,y⟩))) id
      · exact .inl (.inr (.inr (.inr ⟨a,by rw [e1];exact List.mem_append_right _ (List.mem_cons_of_mem _ h),y⟩)))
 have hsub: ∀x,C9 s p g own O (l++b'::r) x→C9 s p g own O (cu B R) x∨w.heap.size≤x:=fun x hx=>by
  rcases hx with y|y|y
  · exact .inl (.inl y)
  · exact (hEb x y).imp (fun y=> .inr (.inl y)) id
  · exact .inl (.inr (.inr y))
 have hlt: ∀x,EO p g own (l++b'::r) x→ ∀t,t<8→O t x→EO p g own (cu B R) x:=fun x hx t ht ho=>by
  rcases hEb x hx with y|y
  · exact y
  · have:=(K.num (z.hp t ht)).2.1 x ho;omega
 have eA:cu (fun u=>(B u).map (gL b')) (R.map (gL b'))=l++b'::r:=by rw [Rm,e2]
 rw [eA];refine ⟨⟨z.cs.upd u fun x=>z.so.1 (ZG s x),by rw [eA];exact abV,fun t ht=> ?_,fun t ht=> ?_, ?_,fun t ht=> ?_,fun t ht x hx y=> ?_,z.two,⟨fun y=> ?_,z.so.2⟩,fun a ha2=> ?_,z.RZ,fun i hi x hx=> ?_,fun x hx=> ?_⟩,hsub⟩
 · refine K.Gi (K.upd (z.hp t ht) u fun x hx ho=>z.ap t ht x ho (ZG x hx)) ?_
   unfold gM;rw [List.map_map,List.map_map,List.map_map];refine List.map_congr_left fun a ha2=> ?_;show (a.sp,Gj a.X)=((gL b' a).sp,Gj (gL b' a).X);unfold gL;split
   · rename_i e
     have hab:a=b:=by
      have hn:=z.env.dJ.nd;have h1:a∈cu B R:=iG.2 (.inl ⟨t,ht,ha2⟩);exact mR hn h1 hm (e.trans hpl)
     subst hab;rw [hsp,hsk]
   · rfl
 · show ((B t).map (gL b')).map _=((P.H t).eu b'.X).B
   rw [Ei,z.hB t ht];rfl
 · show (R.map (gL b')).map _=YL P.N b'.X
   rw [Ei,z.hR];rfl
 · show aO ((P.H t).eu b'.X)
   by_cases hin: ∃a∈B t,a.X.pl=b'.X.pl
   · obtain ⟨a,ha2,e⟩:=hin
     have hab:a=b:=mR z.env.dJ.nd (iG.2 (.inl ⟨t,ht,ha2⟩)) hm (e.trans hpl);subst hab;refine aO.same (z.good t ht) (X:=a.X) ?_ hsk ⟨k.good,k.pl,k.pps⟩;rw [←z.hB t ht];exact List.mem_map.2 ⟨a,ha2,rfl⟩
   · rw [K_ fun Y hY e=> ?_]
     · exact z.good t ht
     · rw [←z.hB t ht] at hY
       obtain ⟨a,ha2,rfl⟩:=List.mem_map.1 hY;exact hin ⟨a,ha2,e⟩
 · rw [eA] at y
   exact z.ap t ht x hx (hlt x y t ht hx)
 · rw [eA] at y
   rcases hEb s y with h|h
   · exact z.so.1 h
   · have:=z.cs.lt;omega
 · obtain ⟨a0,h0,rfl⟩:=List.mem_map.1 ha2
   have h1:=z.Vz a0 h0;show P.nb (gL b' a0).X.pl=some (gL b' a0).sp;unfold gL;split
   · rename_i e
     have hab:a0=b:=mR z.env.dJ.nd (iG.2 (.inr h0)) hm (e.trans hpl);subst hab;rw [←e,hsp];exact h1
   · exact h1
 · obtain ⟨a0,h0,e8,e9⟩:=z.VB i hi x hx
   refine ⟨gL b' a0,List.mem_map.2 ⟨a0,h0,rfl⟩, ?_⟩;unfold gL;split
   · rename_i e
     have hab:a0=b:=mR z.env.dJ.nd (iG.2 (.inr h0)) hm (e.trans hpl);subst hab;exact ⟨hpl.trans e8,hsp.trans e9⟩
   · exact ⟨e8,e9⟩
 · rw [eA] at hx
   rcases hsub x hx with h|h
   · exact z.lo x h
   · have h1:=z.lo s (.inl rfl)
     have h2:=z.cs.lt;omega
end
end Go.Proofs.YtpibbcnkgdmcbaaGreatDoor
namespace Go.Proofs.YtpibbcnkgdmcbaaGreatDoor
open Go.RowKit aC aF aG aI au aD aB aA bf
def J7 (s:Nat) (hb:Nat→Nat) (F:FR) (st:ByteArray) (m:Nat) (pv:Value):Array Value:=
 #[.pointer (some ⟨s,0,none⟩), .pointer (some ⟨hb F.t,0,none⟩), .int .u64 ((F.t+1:Nat):Int), .int .i64 F.kd, .int .u64 (F.ad:Int), .int .u64 (F.n:Int), .int .u64 (F.al:Int), .bool F.z, .bool F.fo, .map (some m), .string st, .int .i64 (F.took:Int), .int .i64 F.pc, .int .i64 F.ps, .int .i64 F.pg, .int .u64 (F.pu:Int),pv, .int .i64 F.seen, .int .u64 (F.first:Int), .int .u64 (F.tag:Int),DV F.left,DV F.page, .int .u64 (F.bytes:Int), .int .u64 (F.addr:Int), .int .i64 F.err]
theorem xJ {α:Type} {E:Elem α} {w w':World} {v:Value} {l:List α} {T:Nat→Prop} (h:Seq E w v l) (u:aH T w w') (hs: ∀k,In v k→l= []∨ ¬T k):Seq E w' v l:=by
 by_cases hl:l= []
 · subst hl
   rcases h with ⟨b,off,cap,rfl,_⟩|h
   · exact .inl ⟨b,off,cap,rfl,fun j u hj=>(by cases hj)⟩
   · exact .inr h
 · exact h.upd u fun k hk=>(hs k hk).resolve_left hl
theorem WC {w:World} {v:Value} {l:List Nat} (h:Seq Elem.jl w v l) {b:Nat} (hb:In v b):l= []∨b<w.heap.size:=by
 cases l with
 |nil=>exact .inl rfl
 |cons x l=>
  rcases h with ⟨b2,off,cap,rfl,hc⟩|h
  · have h0:=World.block_lt_of_cell? w _ (hc 0 (.int .u64 (x:Int)) rfl)
    have e:b2=b:=by injection hb
    subst e;exact .inr h0
  · cases h.1
structure Fr (w:World) (S:Nat→Prop) (f s m:Nat) (hb:Nat→Nat) (F:FR) (st:ByteArray) (a:Option Addr) (k cap:Nat):Prop where
 blk:aV w f 78 (J7 s hb F st m (.slice a k cap))
 pages:Seq Elem.jl w (.slice a k cap) F.pages
 kc:k≤cap∧cap≤9223372036854775807
 own: ∀b,In (.slice a k cap) b→F.pages= []∨(S b∧b≠f)
 map:dh w m
 sm:S m∧m≠f
 sf:S f
 t8:F.t<8
structure FS {w0:World} (C:fH w0) (K:kW w0 C) (s p q:Nat) (hb:Nat→Nat) (P:SY) (L:List Nat) (S:Nat→Prop) (f m:Nat) (F:FR) (st:ByteArray) (w:World):Prop where
 os:OS C K s p q hb P L S w
 fr: ∃a k cap,Fr w S f s m hb F st a k cap
section
variable {w0 w w':World} {C:fH w0} {K:kW w0 C} {s p q f m k cap:Nat} {hb:Nat→Nat} {P P':SY} {L L':List Nat} {S S' T:Nat→Prop} {F F':FR} {st st':ByteArray} {a:Option Addr}
theorem jk (w:World) (f i:Nat) (v:Value):aH (fun b=>b=f) w (w.setCell ⟨f,i,none⟩ v):=aH.setCell (aH.refl (fun b=>b=f) w) (p:=⟨f,i,none⟩) (.inl rfl) v
theorem Fr.upd (h:Fr w S f s m hb F st a k cap) (u:aH T w w') (hT: ∀b,T b→ ¬S b):Fr w' S f s m hb F st a k cap:=
 ⟨h.blk.upd u fun x=>hT f x h.sf,xJ h.pages u fun b hb=>(h.own b hb).imp id fun x y=>hT b y x.1,h.kc,h.own,h.map.upd u fun x=>hT m x h.sm.1,h.sm,h.sf,h.t8⟩
theorem Fr.more (h:Fr w S f s m hb F st a k cap) (hs: ∀b,S b→S' b):Fr w S' f s m hb F st a k cap:=
 ⟨h.blk,h.pages,h.kc,fun b hb=>(h.own b hb).imp id fun x=>⟨hs b x.1,x.2⟩,h.map,⟨hs m h.sm.1,h.sm.2⟩,hs f h.sf,h.t8⟩
theorem Fr.c (h:Fr w S f s m hb F st a k cap) (i:Nat):w.cell? ⟨f,i,none⟩=(J7 s hb F st m (.slice a k cap))[i]? :=h.blk.cell i
theorem Fr.put (h:Fr w S f s m hb F st a k cap) (i:Nat) (v:Value) (F':FR) (st':ByteArray) (e:(J7 s hb F st m (.slice a k cap)).setIfInBounds i v=J7 s hb F' st' m (.slice a k cap)) (hp:F'.pages=F.pages) (ht:F'.t=F.t):Fr (w.setCell ⟨f,i,none⟩ v) S f s m hb F' st' a k cap:=by
 have u:aH (fun b=>b=f) w (w.setCell ⟨f,i,none⟩ v):=jk w f i v;refine ⟨by rw [←e];exact h.blk.put i v,by rw [hp];exact xJ h.pages u fun b hb=>(h.own b hb).imp id fun x=>x.2,h.kc,by rw [hp];exact h.own,h.map.upd u fun e=>h.sm.2 e,h.sm,h.sf,by rw [ht];exact h.t8⟩
theorem Fr.abb {a':Option Addr} {k' cap':Nat} {l:List Nat} (h:Fr w S f s m hb F st a k cap) (hp:Seq Elem.jl w (.slice a' k' cap') l) (hc:k'≤cap'∧cap'≤9223372036854775807) (ho: ∀b,In (.slice a' k' cap') b→l= []∨(S b∧b≠f)):Fr (w.setCell ⟨f,16,none⟩ (.slice a' k' cap')) S f s m hb {F with pages:=l} st a' k' cap':=by
 have u:aH (fun b=>b=f) w (w.setCell ⟨f,16,none⟩ (.slice a' k' cap')):=jk w f 16 _;exact ⟨h.blk.put 16 _,xJ hp u fun b hb=>(ho b hb).imp id fun x=>x.2,hc,ho,h.map.upd u fun e=>h.sm.2 e,h.sm,h.sf,h.t8⟩
theorem Fr.grew (h:Fr w S f s m hb F st a k cap) (hb2:Below w.heap.size w w'):Fr w' S f s m hb F st a k cap:=h.upd (ak hb2) fun _ x=>x.elim
abbrev CV (S:Nat→Prop) (f:Nat) (w w':World):Prop:=aH (fun k=>k=f∨ ¬S k) w w'
theorem CV.of (h:Still S w w'):CV S f w w':=h.mono fun k hk=> .inr hk
end
end Go.Proofs.YtpibbcnkgdmcbaaGreatDoor
