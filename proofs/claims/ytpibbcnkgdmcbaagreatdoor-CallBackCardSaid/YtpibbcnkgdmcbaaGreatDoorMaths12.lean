/- Maths12: texts of layers below, joined (BlocksMath Chains PushMath IterMath VecIn ListAux). -/
import Derived.Test.YtpibbcnkgdmcbaaGreatDoorMemMath
import Derived.Test.YtpibbcnkgdmcbaaGreatDoorVec
import Derived.OwnWalkIn
import Derived.RangeFuncFrom
import Derived.Test.YtpibbcnkgdmcbaaGreatDoorPlaces
import Derived.Test.YtpibbcnkgdmcbaaGreatDoorSmalls12
import Derived.Laws.Small
import Derived.Deep.RegionHeld3
set_option linter.unusedVariables false
namespace Go.Proofs.YtpibbcnkgdmcbaaGreatDoor.aC
def Rs (acc:List Nat) (x:Nat):List Nat:=if acc.contains (x%120) then acc else acc++ [x%120]
structure Once (acc:List Nat):Prop where
 nodup:acc.Nodup
 lt: ∀k∈acc,k<120
theorem Once.add {acc:List Nat} (h:Once acc) (x:Nat):Once (Rs acc x):=by
 unfold Rs;split
 · exact h
 · rename_i hc
   refine ⟨?_, ?_⟩
   · rw [List.nodup_append]
     refine ⟨h.nodup,by simp,fun a ha b hb=> ?_⟩;rw [List.mem_singleton.1 hb];rintro rfl;exact hc (List.contains_iff_mem.2 ha)
   · intro k hk
     rcases List.mem_append.1 hk with hk|hk
     · exact h.lt k hk
     · rw [List.mem_singleton.1 hk];omega
theorem oD: ∀(n:Nat) (acc:List Nat),acc.Nodup→(∀k∈acc,k<n)→acc.length≤n
 |0,acc,_,h=>by
  cases acc with
  |nil=>exact Nat.le_refl _
  |cons x t=>have:=h x (List.mem_cons_self ..);omega
 |n+1,acc,hn,h=>by
  have h1:=oD n (acc.erase n) (hn.erase n) (fun k hk=>by
   have h2:=(hn.mem_erase_iff).1 hk;have:=h k h2.2;omega)
  have h3:=List.length_erase (a:=n) (l:=acc);by_cases hm:n∈acc
  · rw [h3,if_pos hm] at h1;omega
  · rw [h3,if_neg hm] at h1;omega
theorem Once.length {acc:List Nat} (h:Once acc):acc.length≤120:=by
 exact oD 120 acc h.nodup h.lt
end Go.Proofs.YtpibbcnkgdmcbaaGreatDoor.aC
namespace Go.Proofs.YtpibbcnkgdmcbaaGreatDoor.aC
open ay
def dX (L:List Nat) (a:Nat):Nat:=val (ay.part L a 8)
def Chain (L:List Nat):Nat→List Nat→Prop
 |h, []=>h=0
 |h,a::t=>h=a∧a≠0∧a+8≤L.length∧Chain L (dX L a) t
def rowF (L:List Nat):Nat→Nat→Option (List Nat)
 |0,h=>if h=0 then some [] else none
 |m+1,h=>if h=0 then some [] else if h+8≤L.length then (rowF L m (dX L h)).map (fun t=>h::t) else none
theorem rowF_zero (L:List Nat) (m:Nat):rowF L m 0=some []:=by cases m<;>simp [rowF]
theorem rowF_chain {L:List Nat}: ∀{m:Nat} {h:Nat} {l:List Nat},Chain L h l→l.length≤m→rowF L m h=some l
 |m,h, [],hc,_=>by rw [show h=0 from hc];exact rowF_zero L m
 |0,h,a::t,_,hl=>by simp at hl
 |m+1,h,a::t,hc,hl=>by
  obtain ⟨rfl,h0,h8,hc⟩:=hc;have:=rowF_chain (m:=m) hc (by simp at hl;omega);simp [rowF,h0,h8,this]
theorem kJ {L:List Nat}: ∀{m:Nat} {h:Nat} {l:List Nat},rowF L m h=some l→Chain L h l∧l.length≤m
 |0,h,l,e=>by
  unfold rowF at e;split at e
  · rename_i h0;injection e with e;subst e;exact ⟨h0,Nat.le_refl _⟩
  · cases e
 |m+1,h,l,e=>by
  unfold rowF at e;split at e
  · rename_i h0;injection e with e;subst e;exact ⟨h0,by simp⟩
  · rename_i h0
    split at e
    · rename_i h8
      cases hr:rowF L m (dX L h) with
      |none=>rw [hr] at e;cases e
      |some t=>
       rw [hr] at e;injection e with e
       subst e;obtain ⟨h1,h2⟩:=kJ hr;exact ⟨⟨rfl,h0,h8,h1⟩,by simp;omega⟩
    · cases e
theorem rowF_ring {L:List Nat} {S:Nat→Prop} (hS: ∀k,S k→k≠0∧S (dX L k)): ∀(m h:Nat),S h→rowF L m h=none
 |0,h,hh=>by simp [rowF,(hS h hh).1]
 |m+1,h,hh=>by
  have:=rowF_ring hS m _ (hS h hh).2;unfold rowF;rw [if_neg (hS h hh).1];split
  · rw [this];rfl
  · rfl
def g_ (a b:Nat):Prop:=b+8≤a∨a+8≤b
theorem Er {L:List Nat} {a x b:Nat} (ha:a+8≤L.length) (hb:b+8≤L.length) (h:g_ a b):dX (iC L a x) b=dX L b:=by
 unfold dX;rw [zM ha (by rcases h with h|h<;>omega) hb]
theorem Ao {L:List Nat} {a x:Nat} (ha:a+8≤L.length) (hx:x≤18446744073709551615):dX (iC L a x) a=x:=NM ha hx
theorem Chain.put {L:List Nat} {a x:Nat} (ha:a+8≤L.length): ∀{h:Nat} {l:List Nat},Chain L h l→(∀b∈l,g_ a b)→Chain (iC L a x) h l
 |h, [],hc,_=>hc
 |h,b::t,hc,hd=>by
  obtain ⟨rfl,h0,h8,hc⟩:=hc;refine ⟨rfl,h0,by rw [fQ ha];exact h8, ?_⟩;rw [Er ha h8 (hd _ (List.mem_cons_self ..))];exact Chain.put ha hc (fun c hc=>hd c (List.mem_cons_of_mem _ hc))
theorem Chain.push {L:List Nat} {a h:Nat} {l:List Nat} (hc:Chain L h l) (h0:a≠0) (h8:a+8≤L.length) (hd: ∀b∈l,g_ a b) (hh:h≤18446744073709551615):Chain (iC L a h) a (a::l):=
 ⟨rfl,h0,by rw [fQ h8];exact h8,by rw [Ao h8 hh];exact hc.put h8 hd⟩
theorem Chain.sD {L:List Nat} {h:Nat} {l:List Nat} (hc:Chain L h l) (hL:L.length≤1048576):h≤1048576:=by
 cases l with
 |nil=>rw [show h=0 from hc];omega
 |cons a t=>obtain ⟨rfl,_,h8,_⟩:=hc;omega
theorem Chain.join {L:List Nat} {z hl:Nat} {l:List Nat} (hz:z+8≤L.length) (hh:hl≤18446744073709551615) (hc:Chain L hl l) (hd: ∀b∈l,g_ z b): ∀{ho:Nat} {o:List Nat},Chain L ho (o++ [z])→(∀b∈o,g_ z b)→Chain (iC L z hl) ho (o++ [z]++l)
 |ho, [],h,_=>by
  obtain ⟨rfl,h0,h8,_⟩:=h;exact ⟨rfl,h0,by rw [fQ hz];exact h8,by rw [Ao hz hh];exact hc.put hz hd⟩
 |ho,b::t,h,hd2=>by
  obtain ⟨rfl,h0,h8,h⟩:=h;refine ⟨rfl,h0,by rw [fQ hz];exact h8, ?_⟩;rw [Er hz h8 (hd2 _ (List.mem_cons_self ..))];exact Chain.join hz hh hc hd h (fun c hc=>hd2 c (List.mem_cons_of_mem _ hc))
theorem Chain.drop {L:List Nat}: ∀{h:Nat} {l:List Nat} (k:Nat),Chain L h l→ ∀a,l[k]? =some a→Chain L a (l.drop k)
 |h,b::t,0,hc,a,e=>by
  simp at e;subst e;obtain ⟨rfl,h0,h8,hc⟩:=hc;exact ⟨rfl,h0,h8,hc⟩
 |h,b::t,k+1,hc,a,e=>by
  obtain ⟨rfl,_,_,hc⟩:=hc;exact Chain.drop k hc a (by simpa using e)
structure LS where
 L:List Nat
 h:Nat
 n:Int
def dB (s:LS) (a:Nat):LS×Int:=if a=0 then (s,2) else if a+8≤s.L.length then (⟨iC s.L a s.h,a,s.n+1⟩,0) else (s,3)
def dY:LS→List Nat→LS×Int
 |s, []=>(s,0)
 |s,a::t=>if (dB s a).2=0 then dY (dB s a).1 t else dB s a
def xU (s:LS):LS×Nat×Int:=if s.n=0 then (s,0,5) else if s.h+8≤s.L.length then (⟨s.L,dX s.L s.h,s.n-1⟩,s.h,0) else (s,0,3)
def tu (s:LS):Option (List Nat):=if s.n<0 then none else match rowF s.L (min s.n.toNat s.L.length) s.h with
 |some r=>if r.length=s.n.toNat then some r else none
 |none=>none
def bT (L:List Nat) (h:Nat) (m:Int):Option (List Nat):=rowF L (min m.toNat L.length) h
def ku (r:List Nat):Nat:=r.getLastD 0
def r_ (L:List Nat) (lh:Nat) (ln:Int) (oh:Nat) (on:Int):Option (LS×LS):=match tu ⟨L,oh,on⟩ with
 |none=>none
 |some []=>some (⟨L,lh,ln⟩,⟨L,0,0⟩)
 |some r=>some (⟨iC L (ku r) lh,oh,ln+on⟩,⟨iC L (ku r) lh,0,0⟩)
theorem Je {s:LS} {r:List Nat} (hc:Chain s.L s.h r) (hn:s.n=r.length) (hr:r.length≤s.L.length):tu s=some r:=by
 unfold tu;rw [if_neg (by omega),rowF_chain hc (by omega)];simp only [];rw [if_pos (by omega)]
end Go.Proofs.YtpibbcnkgdmcbaaGreatDoor.aC
namespace Go.Proofs.YtpibbcnkgdmcbaaGreatDoor.aC
open ay
theorem qE: ∀(l m:List Nat) (s:LS),(dY s l).2=0→dY s (l++m)=dY (dY s l).1 m
 | [],m,s,_=>rfl
 |a::t,m,s,h=>by
  by_cases h1:(dB s a).2=0
  · have e1:dY s (a::t)=dY (dB s a).1 t:=by show (if _ then _ else _)=_;rw [if_pos h1]
    have e2:dY s (a::t++m)=dY (dB s a).1 (t++m):=by rw [List.cons_append];show (if _ then _ else _)=_;rw [if_pos h1]
    rw [e1] at h⊢;rw [e2];exact qE t m _ h
  · have e1:dY s (a::t)=dB s a:=by show (if _ then _ else _)=_;rw [if_neg h1]
    rw [e1] at h;exact absurd h h1
theorem lT (s:LS) (a:Nat):dY s [a]=dB s a:=by
 show (if _ then _ else _)=_;by_cases h:(dB s a).2=0
 · rw [if_pos h];show ((dB s a).1,(0:Int))=_;rw [←h]
 · rw [if_neg h]
theorem DU (s:LS) (a:Nat) (m:List Nat) (h:(dB s a).2≠0):dY s (a::m)=dB s a:=by
 show (if _ then _ else _)=_;rw [if_neg h]
theorem Gz {s:LS} {l:List Nat} {j a:Nat} (ha:l[j]? =some a) (h:(dY s (l.take j)).2=0):dY s (l.take (j+1))=dB (dY s (l.take j)).1 a:=by
 rw [List.take_add_one,ha];show dY s (l.take j++ [a])=_;rw [qE _ _ _ h,lT]
theorem GH {s:LS} {l:List Nat} {j a:Nat} (ha:l[j]? =some a) (h:(dY s (l.take j)).2=0) (h2:(dB (dY s (l.take j)).1 a).2≠0):dY s l=dB (dY s (l.take j)).1 a:=by
 obtain ⟨hl,e⟩:=List.getElem?_eq_some_iff.1 ha;have hs:l=l.take j++a::l.drop (j+1):=by rw [←e,←List.drop_eq_getElem_cons hl,List.take_append_drop]
 have:=qE (l.take j) (a::l.drop (j+1)) s h;rw [←hs] at this;rw [this,DU _ _ _ h2]
theorem TH (s:LS) (a:Nat):s.n≤(dB s a).1.n∧(dB s a).1.n≤s.n+1:=by
 unfold dB;split
 · exact ⟨Int.le_refl _,by show s.n≤s.n+1;omega⟩
 · split
   · exact ⟨by show s.n≤s.n+1;omega,Int.le_refl _⟩
   · exact ⟨Int.le_refl _,by show s.n≤s.n+1;omega⟩
theorem Lm (s:LS) (a:Nat):(dB s a).1.L.length=s.L.length:=by
 unfold dB;split
 · rfl
 · split
   · rename_i h;exact fQ h
   · rfl
theorem JD: ∀(l:List Nat) (s:LS),s.n≤(dY s l).1.n∧(dY s l).1.n≤s.n+l.length∧(dY s l).1.L.length=s.L.length
 | [],s=>⟨Int.le_refl _,by show s.n≤s.n+(0:Nat);omega,rfl⟩
 |a::t,s=>by
  have h1:=TH s a;have h2:=Lm s a;have h3:=JD t (dB s a).1;unfold dY;split
  · exact ⟨by omega,by rw [List.length_cons];omega,h3.2.2.trans h2⟩
  · exact ⟨by omega,by rw [List.length_cons];omega,h2⟩
theorem TI {s:LS} {a B:Nat} (hs:s.h≤B) (ha:a≤B):(dB s a).1.h≤B:=by
 unfold dB;split
 · exact hs
 · split
   · exact ha
   · exact hs
theorem JE {B:Nat}: ∀(l:List Nat) (s:LS),s.h≤B→(∀x∈l,x≤B)→(dY s l).1.h≤B
 | [],s,hs,_=>hs
 |a::t,s,hs,hl=>by
  have h1:=TI hs (hl a (List.mem_cons_self ..));unfold dY;split
  · exact JE t _ h1 (fun x hx=>hl x (List.mem_cons_of_mem _ hx))
  · exact h1
theorem rowF_step {L:List Nat} {m h0 k:Nat} {r:List Nat} (h:rowF L m h0=(rowF L (m-r.length) k).map (fun t=>r++t)) (hk:k≠0) (hr:r.length<m) (h8:k+8≤L.length):rowF L m h0=(rowF L (m-(r++ [k]).length) (dX L k)).map (fun t=>(r++ [k])++t):=by
 rw [h,List.length_append,List.length_singleton];obtain ⟨d,hd⟩: ∃d,m-r.length=d+1:=⟨m-r.length-1,by omega⟩;rw [hd,show m-(r.length+1)=d by omega];show (if k=0 then _ else if k+8≤L.length then _ else _:Option (List Nat)).map _=_;rw [if_neg hk,if_pos h8,Option.map_map]
 congr 1
 funext t
 simp
end Go.Proofs.YtpibbcnkgdmcbaaGreatDoor.aC
namespace Go.Proofs.YtpibbcnkgdmcbaaGreatDoor.aC
def gD (L:List Nat):Nat→Nat→List (Nat×Nat)
 |0,_=> []
 |m+1,h=>if h=0 then [] else if h+8≤L.length then (h,dX L h)::gD L m (dX L h) else []
def uP:Nat→List (Nat×Nat)→Nat
 |h, []=>h
 |_,x::t=>uP x.2 t
theorem MQ (t:List (Nat×Nat)) (x:Nat×Nat): ∀h,uP h (t++ [x])=x.2:=by
 induction t with
 |nil=>intro h;rfl
 |cons y t ih=>intro h;exact ih _
theorem FZ (L:List Nat) (m:Nat):gD L m 0= []:=by cases m<;>simp [gD]
theorem rowF_walk (L:List Nat): ∀(m h:Nat),rowF L m h=if uP h (gD L m h)=0 then some ((gD L m h).map (·.1)) else none
 |0,h=>by simp [rowF,gD,uP]
 |m+1,h=>by
  by_cases h0:h=0
  · subst h0;simp [rowF,gD,uP]
  · by_cases h8:h+8≤L.length
    · simp only [rowF,gD,if_neg h0,if_pos h8,uP,List.map_cons]
      rw [rowF_walk L m];split<;>rfl
    · simp [rowF,gD,h0,h8,uP]
theorem NG {L:List Nat} {m h k:Nat} (hm:0<m) (h0:h≠0) (h8:h+8≤L.length) (hk:dX L h=k):gD L m h=(h,k)::gD L (m-1) k:=by
 obtain ⟨d,rfl⟩: ∃d,m=d+1:=⟨m-1,by omega⟩;rw [show d+1-1=d by omega,←hk];show (if h=0 then _ else if h+8≤L.length then _ else _:List (Nat×Nat))=_;rw [if_neg h0,if_pos h8]
theorem KC {L:List Nat} {m h:Nat} (h8: ¬h+8≤L.length):gD L m h= []:=by
 cases m with
 |zero=>rfl
 |succ d=>
  unfold gD;split
  · rfl
  · rfl
end Go.Proofs.YtpibbcnkgdmcbaaGreatDoor.aC
namespace Go.Proofs.YtpibbcnkgdmcbaaGreatDoor
open Go.RowKit
variable {α:Type} {E:Elem α} {P:Program}
theorem Vec.cells {w:World} {v:Value} {l:List α} (h:Vec E w v l) (hl:l≠ []) {k:Nat} (hk:In v k): ∃o:Obj,w.heap[k]? =some o∧o.isCells=true:=by
 rcases h with ⟨rfl,rfl⟩|⟨g,off,cap,rfl,hg,_,_,hc,_⟩
 · exact absurd rfl hl
 · obtain rfl:=Um hk
   cases l with
   |nil=>exact absurd rfl hl
   |cons x t=>
    have hlen:0<(E.all (x::t)).length:=by rw [E.eD,List.length_cons,Nat.add_mul];have:=E.pos;omega
    exact cells_of_cell (hc 0 _ (List.getElem?_eq_getElem hlen))
where Um {b o n c k:Nat} (h:In (.slice (some ⟨b,o,none⟩) n c) k):b=k:=by injection h
theorem NJ {A B:World} {row:Option Nat} (hg:A.grownBy B row) (hr: ∀r,row=some r→ ∃o:Obj,A.heap[r]? =some o∧o.isCells=false) {v:Value} {l:List α} (h:Vec E A v l):Vec E B v l:=by
 rcases h with h|⟨g,off,cap,rfl,hl,hn,hm,hc,hsp⟩
 · exact .inl h
 · refine .inr ⟨g,off,cap,rfl,Nat.lt_of_lt_of_le hl hg.size,hn,hm,fun j x hj=>cell_kept (hc j x hj) hg hr,fun j hj=> ?_⟩
   obtain ⟨h1,h2⟩:=hsp j hj;obtain ⟨u,hu⟩:=Option.isSome_iff_exists.1 h1;exact ⟨by rw [cell_kept hu hg hr];rfl,(frozen_kept hu hg hr).trans h2⟩
theorem lU {β:Type} (φ:β→Prop):Own (fun s (_:World)=>φ s):=fun s X Y row hs _ _=>hs
theorem gF {β:Type} {I I':β→World→Prop} (h:Own I) (h':Own I'):Own (fun s W=>I s W∧I' s W):=fun s X Y row hs hg hr=>⟨h s X Y row hs.1 hg hr,h' s X Y row hs.2 hg hr⟩
theorem Pw {β γ:Type} {I:γ→β→World→Prop} (h: ∀y,Own (I y)):Own (fun s W=> ∃y,I y s W):=fun s X Y row ⟨y,hs⟩ hg hr=>⟨y,h y s X Y row hs hg hr⟩
theorem pU {A B:World} {row:Option Nat} (hg:A.grownBy B row) (hr: ∀r,row=some r→ ∃o:Obj,A.heap[r]? =some o∧o.isCells=false) {b:Nat} {t:TypeId} {cs:Array Value} (hb:aV A b t cs):aV B b t cs:=
 (grownBy_keeps_cells hg hr hb rfl).trans hb
theorem wV {β:Type} (b:Nat) (t:TypeId) (f:β→Array Value):Own (fun s W=>aV W b t (f s)):=fun s X Y row hs hg hr=>pU hg hr hs
theorem aV.putObj {w:World} {b:Nat} {t:TypeId} {cs:Array Value} (h:aV w b t cs) {l:Nat} {x:Obj} (y:Obj) (hl:w.heap[l]? =some x) (hx:x.isCells=false):aV (w.putObj l y) b t cs:=
 pU (grownBy_putObj' w l y) (fun r e=>by cases e;exact ⟨x,hl,hx⟩) h
theorem Vec.putObj {w:World} {v:Value} {l:List α} (h:Vec E w v l) {k:Nat} {x:Obj} (y:Obj) (hl:w.heap[k]? =some x) (hx:x.isCells=false):Vec E (w.putObj k y) v l:=
 NJ (grownBy_putObj' w k y) (fun r e=>by cases e;exact ⟨x,hl,hx⟩) h
theorem aH.YU {S:Nat→Prop} {w w':World} (h:aH S w w') (hS: ∀k,S k→ ∃o:Obj,w.heap[k]? =some o∧o.isCells=true):KeepsOthers w w':=
 ⟨h.size,fun k o hk ho=>(h.block k (Array.getElem?_eq_some_iff.1 hk).1 (fun e=>by
  obtain ⟨o',h1,h2⟩:=hS k e;rw [h1] at hk;cases hk;rw [h2] at ho;cases ho)).trans hk⟩
end Go.Proofs.YtpibbcnkgdmcbaaGreatDoor
namespace Go.Proofs.YtpibbcnkgdmcbaaGreatDoor
open Go.RowKit aC
theorem tq {s:LS} (hn:0≤s.n):tu s=match bT s.L s.h s.n with
 |some r=>if r.length=s.n.toNat then some r else none
 |none=>none:=by
 unfold tu bT;rw [if_neg (by omega)]
 try (cases rowF s.L (min s.n.toNat s.L.length) s.h<;>rfl)
def Aside (lp o op o2:Nat):Prop:=lp≠op∨o+2≤o2∨o2+2≤o
theorem Aside.at {lp o op o2:Nat} (h:Aside lp o op o2): ¬qZ lp o op o2∧ ¬qZ lp o op (o2+1)∧ ¬qZ op o2 lp o∧ ¬qZ op o2 lp (o+1):=by
 unfold Aside at h;unfold qZ;refine ⟨?_, ?_, ?_, ?_⟩<;>(rintro ⟨e,x⟩;omega)
theorem wY {w:World} {lp o:Nat} (u:Value):dA (fun _=>False) (qZ lp o) w (w.setCell ⟨lp,o,none⟩ u):=(dA.refl _ _ w).setCell ⟨rfl,Or.inl rfl⟩ u
theorem tO {w:World} {lp o:Nat} (u:Value):dA (fun _=>False) (qZ lp o) w (w.setCell ⟨lp,o+1,none⟩ u):=(dA.refl _ _ w).setCell ⟨rfl,Or.inr rfl⟩ u
theorem fK {w:World} {lp i:Nat} (u:Value):aH (fun b=>b=lp) w (w.setCell ⟨lp,i,none⟩ u):=(aH.refl (fun b=>b=lp) w).setCell (.inl rfl) u
def acI (L:List Nat) (lh oh:Nat) (ln on:Int):LS×LS:=(r_ L lh ln oh on).getD (⟨L,lh,ln⟩,⟨L,oh,on⟩)
theorem Ho {L:List Nat} {lh oh:Nat} {ln on:Int} (h:tu ⟨L,oh,on⟩=none):r_ L lh ln oh on=none:=by unfold r_;rw [h]
theorem L9 {L:List Nat} {lh oh:Nat} {ln on:Int} (h:tu ⟨L,oh,on⟩=some []):r_ L lh ln oh on=some (⟨L,lh,ln⟩,⟨L,0,0⟩):=by unfold r_;rw [h]
theorem yA {L:List Nat} {lh oh:Nat} {ln on:Int} {r:List Nat} (h:tu ⟨L,oh,on⟩=some r) (hr:r≠ []):r_ L lh ln oh on=some (⟨ay.iC L (ku r) lh,oh,ln+on⟩,⟨ay.iC L (ku r) lh,0,0⟩):=by
 unfold r_;rw [h];cases r with
 |nil=>exact absurd rfl hr
 |cons a t=>rfl
theorem Nj {s:LS} {r:List Nat} (h:tu s=some r) (hn:0≤s.n) (hr:r≠ []): ∃c z,r.length=c+1∧r[c]? =some z∧ku r=z∧z+8≤s.L.length∧s.n=(r.length:Int):=by
 have h1:=tq hn;rw [h] at h1;cases hc:bT s.L s.h s.n with
 |none=>rw [hc] at h1;cases h1
 |some q=>
  rw [hc] at h1;simp only [] at h1;split at h1
  · rename_i hq
    injection h1 with h1
    subst h1;have hch:=(kJ hc).1;rcases List.eq_nil_or_concat r with e|⟨t,z,e⟩
    · exact absurd e hr
    · rw [List.concat_eq_append] at e
      have hz:r[t.length]? =some z:=by rw [e];simp
      refine ⟨t.length,z,by rw [e];simp,hz,by rw [e];unfold ku;simp, ?_,by omega⟩;have h2:=hch.drop t.length z hz;obtain ⟨hl,ez⟩:=List.getElem?_eq_some_iff.1 hz;rw [List.drop_eq_getElem_cons hl] at h2;obtain ⟨x,_,y,_⟩:=h2;rw [x];exact y
  · cases h1
end Go.Proofs.YtpibbcnkgdmcbaaGreatDoor
