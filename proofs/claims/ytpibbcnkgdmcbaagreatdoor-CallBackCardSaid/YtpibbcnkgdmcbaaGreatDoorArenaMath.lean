/- Regions in a row of places: lists of (place, size) that rise, and the places as marks. -/
import Derived.Test.YtpibbcnkgdmcbaaGreatDoorMarkMath
set_option linter.unusedVariables false
namespace Go.Proofs.YtpibbcnkgdmcbaaGreatDoor.aA
def Ok (S:Nat) (l:List (Nat×Nat)):Prop:=l.Pairwise (fun x y=>x.1+x.2≤y.1)∧ ∀x∈l,1≤x.2∧x.1+x.2≤S
def total (l:List (Nat×Nat)):Nat:=(l.map (·.2)).sum
def clear (l:List (Nat×Nat)) (a k:Nat):Prop:= ∀x∈l,¬(a<x.1+x.2∧x.1<a+k)
instance (l:List (Nat×Nat)) (a k:Nat):Decidable (clear l a k):=inferInstanceAs (Decidable (∀x∈l,¬(a<x.1+x.2∧x.1<a+k)))
def put (l:List (Nat×Nat)) (a k:Nat):List (Nat×Nat):=l.filter (fun x=>decide (x.1<a))++(a,k)::l.filter (fun x=>decide (a<x.1))
def del (l:List (Nat×Nat)) (a:Nat):List (Nat×Nat):=l.filter (fun x=>decide (x.1≠a))
def spot (S:Nat) (l:List (Nat×Nat)) (k:Nat):Option Nat:=(List.range S).find? (fun a=>decide (a+k≤S∧clear l a k))
theorem KI:total []=0:=rfl
theorem xq (x:Nat×Nat) (l:List (Nat×Nat)):total (x::l)=x.2+total l:=by simp [total]
theorem rC (l m:List (Nat×Nat)):total (l++m)=total l+total m:=by simp [total]
theorem Gb {l m:List (Nat×Nat)} (h:l.Perm m):total l=total m:=(h.map _).sum_nat
theorem Ok.nil (S:Nat):Ok S []:=⟨List.Pairwise.nil,by simp⟩
theorem Ri {l:List (Nat×Nat)} (h:l.Pairwise (fun x y=>x.1+x.2≤y.1)) {x y:Nat×Nat} (hx:x∈l) (hy:y∈l):x=y∨x.1+x.2≤y.1∨y.1+y.2≤x.1:=by
 induction l with
 |nil=>simp at hx
 |cons z t ih=>
  rw [List.pairwise_cons] at h;rcases List.mem_cons.1 hx with e1|hx1
  · rcases List.mem_cons.1 hy with e2|hy1
    · exact .inl (e1.trans e2.symm)
    · subst e1;exact .inr (.inl (h.1 _ hy1))
  · rcases List.mem_cons.1 hy with e2|hy1
    · subst e2;exact .inr (.inr (h.1 _ hx1))
    · exact ih h.2 hx1 hy1
theorem Ok.apart {S:Nat} {l:List (Nat×Nat)} (h:Ok S l) {x y:Nat×Nat} (hx:x∈l) (hy:y∈l):x=y∨x.1+x.2≤y.1∨y.1+y.2≤x.1:=Ri h.1 hx hy
theorem Ok.one {S:Nat} {l:List (Nat×Nat)} (h:Ok S l) {x y:Nat×Nat} (hx:x∈l) (hy:y∈l) (e:x.1=y.1):x=y:=by
 have:=(h.2 x hx).1;have:=(h.2 y hy).1;rcases h.apart hx hy with h|h|h
 · exact h
 · omega
 · omega
theorem Ok.sub {S:Nat} {l m:List (Nat×Nat)} (h:Ok S l) (hs:m.Sublist l):Ok S m:=⟨h.1.sublist hs,fun x hx=>h.2 x (hs.subset hx)⟩
theorem clear.ne {S:Nat} {l:List (Nat×Nat)} {a k:Nat} (ho:Ok S l) (h:clear l a k) (hk:1≤k) {x:Nat×Nat} (hx:x∈l):x.1≠a:=by
 intro e;have:=(ho.2 x hx).1;exact h x hx ⟨by omega,by omega⟩
theorem mY {S:Nat} {l:List (Nat×Nat)} {a k:Nat} (ho:Ok S l) (h:clear l a k) (hk:1≤k) {x:Nat×Nat}:x∈put l a k↔x=(a,k)∨x∈l:=by
 unfold put;simp only [List.mem_append,List.mem_cons,List.mem_filter,decide_eq_true_eq];constructor
 · rintro (⟨h,_⟩|h|⟨h,_⟩)
   · exact .inr h
   · exact .inl h
   · exact .inr h
 · rintro (e|hx)
   · exact .inr (.inl e)
   · have:=h.ne ho hk hx
     rcases Nat.lt_or_ge x.1 a with h1|h1
     · exact .inl ⟨hx,h1⟩
     · exact .inr (.inr ⟨hx,by omega⟩)
theorem O7 {S:Nat} {l:List (Nat×Nat)} {a k:Nat} (ho:Ok S l) (h:clear l a k) (hk:1≤k):(put l a k).Perm ((a,k)::l):=by
 unfold put;refine List.perm_middle.trans (List.Perm.cons _ ?_);have e:l.filter (fun x=>decide (a<x.1))=l.filter (fun x=> !decide (x.1<a)):=by
  apply List.filter_congr;intro x hx;have:=h.ne ho hk hx;by_cases h1:x.1<a
  · simp [h1];omega
  · simp [h1];omega
 rw [e];exact List.filter_append_perm _ _
theorem z8 {S:Nat} {l:List (Nat×Nat)} {a k:Nat} (ho:Ok S l) (h:clear l a k) (hk:1≤k):total (put l a k)=total l+k:=by
 rw [Gb (O7 ho h hk),xq];simp only;omega
theorem Ok.put {S:Nat} {l:List (Nat×Nat)} {a k:Nat} (ho:Ok S l) (h:clear l a k) (hk:1≤k) (hs:a+k≤S):Ok S (put l a k):=by
 refine ⟨?_,fun x hx=> ?_⟩
 · unfold aA.put
   have h1: ∀x∈l,x.1<a→x.1+x.2≤a:=fun x hx hxa=>by have:=h x hx;omega
   have h2: ∀x∈l,a<x.1→a+k≤x.1:=fun x hx hxa=>by have:=h x hx;omega
   rw [List.pairwise_append];refine ⟨ho.1.sublist List.filter_sublist, ?_, ?_⟩
   · rw [List.pairwise_cons]
     refine ⟨fun y hy=> ?_,ho.1.sublist List.filter_sublist⟩;obtain ⟨hy,h3⟩:=List.mem_filter.1 hy;exact h2 y hy (by simpa using h3)
   · intro x hx y hy
     obtain ⟨hx,h3⟩:=List.mem_filter.1 hx;have h3:=h1 x hx (by simpa using h3);rcases List.mem_cons.1 hy with rfl|hy
     · exact h3
     · obtain ⟨hy,h4⟩:=List.mem_filter.1 hy
       have:=h2 y hy (by simpa using h4);omega
 · rcases (mY ho h hk).1 hx with rfl|hx
   · exact ⟨hk,hs⟩
   · exact ho.2 x hx
theorem MU {S:Nat} {s t:List (Nat×Nat)} {a n:Nat} (ho:Ok S (s++(a,n)::t)):del (s++(a,n)::t) a=s++t:=by
 unfold del;have hs: ∀x∈s,x.1≠a:=fun x hx e=>by
  have h1:=(List.pairwise_append.1 ho.1).2.2 x hx (a,n) (by simp);have h2:=(ho.2 x (by simp [hx])).1;simp only at h1;omega
 have ht: ∀x∈t,x.1≠a:=fun x hx e=>by
  have h1:=(List.pairwise_cons.1 (List.pairwise_append.1 ho.1).2.1).1 x hx;have h2:=(ho.2 (a,n) (by simp)).1;simp only at h1 h2;omega
 rw [List.filter_append,List.filter_cons,List.filter_eq_self.2 (fun x hx=>by simpa using hs x hx),List.filter_eq_self.2 (fun x hx=>by simpa using ht x hx)];simp
theorem Oy {l:List (Nat×Nat)} {x:Nat×Nat} (h:x∈l): ∃s t,l=s++x::t:=List.append_of_mem h
theorem z_ {S:Nat} {l:List (Nat×Nat)} {a n:Nat} (ho:Ok S l) (h:(a,n)∈l):total (del l a)+n=total l:=by
 obtain ⟨s,t,rfl⟩:=Oy h;rw [MU ho,rC,rC,xq];simp only;omega
theorem wL {l:List (Nat×Nat)} {a:Nat} {x:Nat×Nat}:x∈del l a↔x∈l∧x.1≠a:=by simp [del]
theorem Ok.del {S:Nat} {l:List (Nat×Nat)} (ho:Ok S l) (a:Nat):Ok S (del l a):=ho.sub List.filter_sublist
structure Fits (S:Nat) (l:List (Nat×Nat)) (R:List Nat) (L:List Bool):Prop where
 ok:Ok S l
 pX:R.length=S
 rY:L.length=S
 reg: ∀j n,1≤n→(R.getD j 0=n↔(j,n)∈l)
 mark: ∀j,j<S→(L.getD j false=true↔ ∃x∈l,x.1≤j∧j<x.1+x.2)
 left:aj.left L+total l=S
theorem Fits.new (S:Nat):Fits S [] (List.replicate S 0) (aj.rep S false) where
 ok:=Ok.nil S
 pX:=by simp
 rY:=aj.dS _ _
 reg j n hn:=by
  simp only [List.getD_eq_getElem?_getD,List.getElem?_replicate,List.not_mem_nil,iff_false];split<;>simp<;>omega
 mark j hj:=by
  rw [aj.EL,if_pos hj];simp
 left:=by rw [aj.yw,KI];rfl
theorem Fits.free {S:Nat} {l:List (Nat×Nat)} {R:List Nat} {L:List Bool} (h:Fits S l R L) {a k:Nat} (hk:1≤k):aj.bI L a k false↔a+k≤S∧clear l a k:=by
 constructor
 · intro hf
   have hle:=hf.le hk;rw [h.rY] at hle;refine ⟨hle,fun x hx hm=> ?_⟩;have hx2:=(h.ok.2 x hx).1;have e:=hf.at (i:=max a x.1) (by omega) (by omega) false;have:=(h.mark (max a x.1) (by omega)).2 ⟨x,hx,by omega,by omega⟩;rw [e] at this;cases this
 · rintro ⟨hle,hc⟩ j hj
   rw [aj.mg (by rw [h.rY];omega) _ false];cases hx:L.getD (a+j) false with
   |false=>rfl
   |true=>
    obtain ⟨x,hx,h1,h2⟩:=(h.mark (a+j) (by omega)).1 hx;exact absurd ⟨by omega,by omega⟩ (hc x hx)
theorem EK (R:List Nat) (a j v:Nat) (h:a<R.length):(R.set a v).getD j 0=if a=j then v else R.getD j 0:=by
 simp only [List.getD_eq_getElem?_getD,List.getElem?_set];by_cases e:a=j
 · rw [if_pos e,if_pos e,if_pos h];rfl
 · rw [if_neg e,if_neg e]
theorem Fits.put {S:Nat} {l:List (Nat×Nat)} {R:List Nat} {L:List Bool} (h:Fits S l R L) {a k:Nat} (hk:1≤k) (hs:a+k≤S) (hc:clear l a k):Fits S (put l a k) (R.set a k) (aj.setAt L a k true) where
 ok:=h.ok.put hc hk hs
 pX:=by rw [List.length_set];exact h.pX
 rY:=by rw [aj.aZ _ (by rw [h.rY];exact hs)];exact h.rY
 reg j n hn:=by
  rw [EK _ _ _ _ (by rw [h.pX];omega),mY h.ok hc hk];by_cases e:a=j
  · subst e
    rw [if_pos rfl];constructor
    · rintro rfl;exact .inl rfl
    · rintro (e|hx)
      · injection e with _ e;exact e.symm
      · exact absurd rfl (hc.ne h.ok hk hx)
  · rw [if_neg e,h.reg j n hn]
    constructor
    · exact .inr
    · rintro (e'|hx)
      · injection e' with e' _;exact absurd e'.symm e
      · exact hx
 mark j hj:=by
  rw [aj.cO _ (by rw [h.rY];exact hs)];by_cases e:a≤j∧j<a+k
  · rw [if_pos e]
    exact ⟨fun _=>⟨(a,k),(mY h.ok hc hk).2 (.inl rfl),e⟩,fun _=>rfl⟩
  · rw [if_neg e,h.mark j hj]
    constructor
    · rintro ⟨x,hx,hj⟩;exact ⟨x,(mY h.ok hc hk).2 (.inr hx),hj⟩
    · rintro ⟨x,hx,hj⟩
      rcases (mY h.ok hc hk).1 hx with rfl|hx
      · exact absurd hj e
      · exact ⟨x,hx,hj⟩
 left:=by
  have h1:=aj.mZ (L:=L) (a:=a) (k:=k) (by rw [h.rY];exact hs) ((h.free hk).2 ⟨hs,hc⟩);have h2:=h.left;rw [z8 h.ok hc hk];omega
theorem Fits.taken {S:Nat} {l:List (Nat×Nat)} {R:List Nat} {L:List Bool} (h:Fits S l R L) {a n:Nat} (hx:(a,n)∈l):aj.bI L a n true:=by
 intro j hj;have hle:=(h.ok.2 _ hx).2;simp only at hle;exact (h.mark (a+j) (by omega)).2 ⟨(a,n),hx,by simp,by simp only;omega⟩
theorem Fits.del {S:Nat} {l:List (Nat×Nat)} {R:List Nat} {L:List Bool} (h:Fits S l R L) {a n:Nat} (hx:(a,n)∈l):Fits S (del l a) (R.set a 0) (aj.setAt L a n false):=by
 have hx1:1≤n:=(h.ok.2 _ hx).1;have hx2:a+n≤S:=(h.ok.2 _ hx).2;constructor
 · exact h.ok.del a
 · rw [List.length_set];exact h.pX
 · rw [aj.aZ _ (by rw [h.rY];exact hx2)];exact h.rY
 · intro j m hm
   rw [EK _ _ _ _ (by rw [h.pX];omega),wL];by_cases e:a=j
   · subst e
     rw [if_pos rfl];constructor
     · intro e;omega
     · rintro ⟨_,h⟩;exact absurd rfl h
   · rw [if_neg e,h.reg j m hm]
     exact ⟨fun h=>⟨h,fun e'=>e e'.symm⟩,fun h=>h.1⟩
 · intro j hj
   rw [aj.cO _ (by rw [h.rY];exact hx2)];by_cases e:a≤j∧j<a+n
   · rw [if_pos e]
     constructor
     · intro h;cases h
     · rintro ⟨y,hy,hj⟩
       obtain ⟨hy,hne⟩:=wL.1 hy;rcases h.ok.apart hx hy with h1|h1|h1
       · exact absurd (by rw [←h1]) hne
       · simp only at h1;omega
       · simp only at h1;omega
   · rw [if_neg e,h.mark j hj]
     constructor
     · rintro ⟨y,hy,hj⟩
       refine ⟨y,wL.2 ⟨hy,fun h1=> ?_⟩,hj⟩;have:=h.ok.one hy hx h1;subst this;exact e hj
     · rintro ⟨y,hy,hj⟩
       exact ⟨y,(wL.1 hy).1,hj⟩
 · have h1:=aj.uq (L:=L) (a:=a) (k:=n) (by rw [h.rY];exact hx2) (h.taken hx)
   have h2:=z_ h.ok hx;have h3:=h.left;omega
theorem jY {S:Nat} {l:List (Nat×Nat)} {k a:Nat} (h:spot S l k=some a):a+k≤S∧clear l a k∧ ∀b,b<a→ ¬clear l b k:=by
 unfold spot at h;obtain ⟨h1,as,bs,h2,h3⟩:=List.find?_eq_some_iff_append.1 h;have h1:=of_decide_eq_true h1;refine ⟨h1.1,h1.2,fun b hb hc=> ?_⟩;have hlen:as.length=a:=by
  have hl:as.length<(List.range S).length:=by rw [h2];simp
  have h4:(List.range S)[as.length]? =some a:=by rw [h2,List.getElem?_append_right (Nat.le_refl _)];simp
  rw [List.length_range] at hl;rw [List.getElem?_range hl] at h4;injection h4
 have hmem:b∈as:=by
  have h4:(List.range S)[b]? =as[b]? :=by rw [h2,List.getElem?_append_left (by omega)]
  have:(List.range S).length=as.length+(bs.length+1):=by rw [h2];simp
  rw [List.length_range] at this;rw [List.getElem?_range (by omega)] at h4;exact List.mem_of_getElem? h4.symm
 have:=h3 b hmem;rw [Bool.not_eq_true',decide_eq_false_iff_not] at this;exact this ⟨by omega,hc⟩
theorem KV {S:Nat} {l:List (Nat×Nat)} {k:Nat} (hk:1≤k) (h:spot S l k=none) (a:Nat) (ha:a+k≤S): ¬clear l a k:=by
 intro hc;have:=List.find?_eq_none.1 h a (List.mem_range.2 (by omega));exact this (decide_eq_true ⟨ha,hc⟩)
theorem Fits.low {S:Nat} {l:List (Nat×Nat)} {R:List Nat} {L:List Bool} (h:Fits S l R L) {k:Nat} (hk:1≤k):aj.low L k=spot S l k:=by
 cases hs:spot S l k with
 |none=>
  refine aj.P6 hk fun b hf=> ?_;obtain ⟨h1,h2⟩:=(h.free hk).1 hf;exact KV hk hs b h1 h2
 |some a=>
  obtain ⟨h1,h2,h3⟩:=jY hs;exact aj.He hk ⟨(h.free hk).2 ⟨h1,h2⟩,fun b hb hf=>h3 b hb ((h.free hk).1 hf).2⟩
structure St where
 S:Nat
 lim:Nat
 l:List (Nat×Nat)
 T:List Bool
 r:Nat
def far (s:St) (n:Int):Prop:= ¬(1≤n∧n≤(s.S:Int))
instance (s:St) (n:Int):Decidable (far s n):=inferInstanceAs (Decidable (¬_))
def St.told (s:St):St:={s with T:=s.T.drop 1}
def St.no (s:St):St:={s with T:=s.T.drop 1,r:=s.r+1}
def St.give (s:St) (a k:Nat):St:={s with T:=s.T.drop 1,l:=put s.l a k}
def reserve (s:St) (n:Int):Int×Int×St:=
 if far s n then (0,2,s) else
 if s.T.headD false=true∨s.lim<total s.l+n.toNat then (0,4,s.no) else
 match spot s.S s.l n.toNat with
 |none=>(0,4,s.no)
 |some a=>((a:Int),0,s.give a n.toNat)
def has (s:St) (a:Int):Prop:=0≤a∧ ∃x∈s.l,x.1=a.toNat
instance (s:St) (a:Int):Decidable (has s a):=inferInstanceAs (Decidable (_∧_))
def release (s:St) (a:Int):Int×St:=if has s a then (0,{s with l:=del s.l a.toNat}) else (5,s)
def refuse (s:St) (m:List Bool):Int×St:=if 1000<s.T.length+m.length then (4,s) else (0,{s with T:=s.T++m})
structure Good (s:St):Prop where
 S1:1≤s.S
 S2:s.S≤64
 lim:s.lim≤s.S
 ok:Ok s.S s.l
 sum:total s.l≤s.lim
 told:s.T.length≤1000
theorem DC {s:St} {n:Int} (h:far s n):reserve s n=(0,2,s):=by unfold reserve;rw [if_pos h]
theorem Cq {s:St} {k:Nat} (h1:1≤k) (h2:k≤s.S): ¬far s (k:Int):=fun h=>h ⟨by omega,by omega⟩
theorem xL {s:St} {k:Nat} (h1:1≤k) (h2:k≤s.S) (h:s.T.headD false=true∨s.lim<total s.l+k):reserve s k=(0,4,s.no):=by
 unfold reserve;rw [if_neg (Cq h1 h2),Int.toNat_natCast,if_pos h]
theorem BH {s:St} {k:Nat} (h1:1≤k) (h2:k≤s.S) (h:spot s.S s.l k=none):reserve s k=(0,4,s.no):=by
 unfold reserve;rw [if_neg (Cq h1 h2),Int.toNat_natCast];split
 · rfl
 · rw [h]
theorem BD {s:St} {k a:Nat} (h1:1≤k) (h2:k≤s.S) (ht:s.T.headD false=false) (hl:total s.l+k≤s.lim) (h:spot s.S s.l k=some a):reserve s k=((a:Int),0,s.give a k):=by
 unfold reserve;rw [if_neg (Cq h1 h2),Int.toNat_natCast,if_neg (by rw [ht];simp;omega),h]
theorem Good.no {s:St} (h:Good s):Good s.no:=⟨h.S1,h.S2,h.lim,h.ok,h.sum,by have:=h.told;simp [St.no];omega⟩
theorem Good.give {s:St} (h:Good s) {a k:Nat} (hk:1≤k) (hl:total s.l+k≤s.lim) (hs:spot s.S s.l k=some a):Good (s.give a k):=by
 obtain ⟨h1,h2,_⟩:=jY hs;exact ⟨h.S1,h.S2,h.lim,h.ok.put h2 hk h1,by have:=z8 h.ok h2 hk;simp only [St.give];omega,by have:=h.told;simp [St.give];omega⟩
theorem Ci {s:St} (h:Good s) (a:Int):Good (release s a).2:=by
 unfold release;split
 · rename_i hh
   obtain ⟨_,⟨x1,x2⟩,hx,e⟩:=hh;simp only at e;subst e;have:=z_ h.ok hx;exact ⟨h.S1,h.S2,h.lim,h.ok.del _,by have:=h.sum;simp only;omega,h.told⟩
 · exact h
theorem mU (s:St) (n:Int):(reserve s n).2.2.S=s.S∧(reserve s n).2.2.lim=s.lim∧(reserve s n).2.2.r≤s.r+1:=by
 unfold reserve;split
 · exact ⟨rfl,rfl,by simp⟩
 · split
   · exact ⟨rfl,rfl,Nat.le_refl _⟩
   · split
     · exact ⟨rfl,rfl,Nat.le_refl _⟩
     · exact ⟨rfl,rfl,by simp [St.give]⟩
theorem rM (s:St) (a:Int):(release s a).2.S=s.S∧(release s a).2.lim=s.lim∧(release s a).2.r=s.r:=by
 unfold release;split<;>exact ⟨rfl,rfl,rfl⟩
end Go.Proofs.YtpibbcnkgdmcbaaGreatDoor.aA
