/- Places, taken and free, as a list of Bool: rows, the longest one, the lowest one that is free. -/
set_option linter.unusedVariables false
namespace Go.Proofs.YtpibbcnkgdmcbaaGreatDoor.aj
def rep (n:Nat) (b:Bool):List Bool:=List.replicate n b
theorem dS (n:Nat) (b:Bool):(rep n b).length=n:=by simp [rep]
theorem EL (n:Nat) (b d:Bool) (j:Nat):(rep n b).getD j d=if j<n then b else d:=by
 unfold rep;simp only [List.getD_eq_getElem?_getD,List.getElem?_replicate];split<;>rfl
theorem f_ {L M:List Bool} (hl:L.length=M.length) (h: ∀j,j<L.length→L.getD j false=M.getD j false):L=M:=by
 apply List.ext_getElem hl;intro i h1 h2;have:=h i h1
 simpa [List.getD_eq_getElem?_getD,h1,h2] using this
theorem mg {L:List Bool} {j:Nat} (h:j<L.length) (a b:Bool):L.getD j a=L.getD j b:=by
 simp [List.getD_eq_getElem?_getD,h]
theorem EM {L:List Bool} {j:Nat} (h:L.length≤j) (a:Bool):L.getD j a=a:=by
 simp [List.getD_eq_getElem?_getD,h]
def bI (L:List Bool) (a k:Nat) (x:Bool):Prop:= ∀j,j<k→L.getD (a+j) (!x)=x
instance (L:List Bool) (a k:Nat) (x:Bool):Decidable (bI L a k x):=inferInstanceAs (Decidable (∀j,j<k→L.getD (a+j) (!x)=x))
theorem bI.lt {L:List Bool} {a k:Nat} {x:Bool} (h:bI L a k x) {j:Nat} (hj:j<k):a+j<L.length:=by
 rcases Nat.lt_or_ge (a+j) L.length with h1|h1
 · exact h1
 · have:=h j hj
   rw [EM h1] at this;cases x<;>cases this
theorem bI.le {L:List Bool} {a k:Nat} {x:Bool} (h:bI L a k x) (hk:1≤k):a+k≤L.length:=by
 have:=h.lt (j:=k-1) (by omega);omega
theorem bI.sub {L:List Bool} {a k b m:Nat} {x:Bool} (h:bI L a k x) (h1:a≤b) (h2:b+m≤a+k):bI L b m x:=fun j hj=>by
 have:=h (b-a+j) (by omega)
 rwa [show a+(b-a+j)=b+j by omega] at this
theorem bI.at {L:List Bool} {a k i:Nat} {x:Bool} (h:bI L a k x) (h1:a≤i) (h2:i<a+k) (d:Bool):L.getD i d=x:=by
 have e:=h (i-a) (by omega);have hl:=h.lt (j:=i-a) (by omega);rw [show a+(i-a)=i by omega] at e hl;rw [mg hl d (!x)];exact e
theorem bI.none (L:List Bool) (a:Nat) (x:Bool):bI L a 0 x:=fun j hj=>by omega
theorem bI.snoc {L:List Bool} {a k:Nat} {x:Bool} (h:bI L a k x) (hl:a+k<L.length) (hx:L.getD (a+k) false=x):bI L a (k+1) x:=fun j hj=>by
 rcases Nat.lt_or_ge j k with h1|h1
 · exact h j h1
 · obtain rfl:j=k:=by omega
   rw [mg hl _ false];exact hx
theorem bI.cons {L:List Bool} {a k:Nat} {x:Bool} (h:bI L (a+1) k x) (hl:a<L.length) (hx:L.getD a false=x):bI L a (k+1) x:=fun j hj=>by
 cases j with
 |zero=>rw [Nat.add_zero,mg hl _ false];exact hx
 |succ j=>have:=h j (by omega);rwa [show a+1+j=a+(j+1) by omega] at this
theorem Yd {L:List Bool} {a k:Nat} {x:Bool} (hl:a+k≤L.length) (h: ¬bI L a k x): ∃j,j<k∧L.getD (a+j) false= !x:=by
 refine Classical.byContradiction fun hn=>h fun j hj=> ?_;rw [mg (by omega) _ false];refine Classical.byContradiction fun hx=>hn ⟨j,hj, ?_⟩;cases x<;>cases hc:L.getD (a+j) false<;>simp_all
def setAt (L:List Bool) (a k:Nat) (b:Bool):List Bool:=L.take a++(rep k b++L.drop (a+k))
theorem aZ {L:List Bool} {a k:Nat} (b:Bool) (h:a+k≤L.length):(setAt L a k b).length=L.length:=by
 simp [setAt,dS];omega
theorem cO {L:List Bool} {a k:Nat} (b:Bool) (h:a+k≤L.length) (j:Nat) (d:Bool):(setAt L a k b).getD j d=if a≤j∧j<a+k then b else L.getD j d:=by
 unfold setAt;simp only [List.getD_eq_getElem?_getD];by_cases h1:j<a
 · rw [List.getElem?_append_left (by simp;omega),List.getElem?_take_of_lt h1,if_neg (by omega)]
 · rw [List.getElem?_append_right (by simp;omega)]
   rw [show (L.take a).length=a by simp;omega];by_cases h2:j<a+k
   · rw [List.getElem?_append_left (by rw [dS];omega),if_pos (by omega)]
     simp [rep,show j-a<k by omega]
   · rw [List.getElem?_append_right (by rw [dS];omega),dS,List.getElem?_drop,if_neg (by omega)]
     rw [show a+k+(j-a-k)=j by omega]
theorem xI (L:List Bool) (a:Nat) (b:Bool):setAt L a 0 b=L:=by simp [setAt,rep]
theorem xH {L:List Bool} {a k:Nat} (b:Bool) (h:a+(k+1)≤L.length):(setAt L a k b).set (a+k) b=setAt L a (k+1) b:=by
 apply f_
 · rw [List.length_set,aZ _ (by omega),aZ _ h]
 · intro j hj
   rw [List.length_set,aZ _ (by omega)] at hj;rw [cO _ h];have e:((setAt L a k b).set (a+k) b).getD j false=if a+k=j then b else (setAt L a k b).getD j false:=by
    simp only [List.getD_eq_getElem?_getD,List.getElem?_set,aZ b (show a+k≤L.length by omega)];by_cases h:a+k=j
    · rw [if_pos h,if_pos h,if_pos (by omega)];rfl
    · rw [if_neg h,if_neg h]
   rw [e,cO _ (by omega)];by_cases h1:a+k=j
   · rw [if_pos h1,if_pos (by omega)]
   · rw [if_neg h1]
     by_cases h2:a≤j∧j<a+k
     · rw [if_pos h2,if_pos (by omega)]
     · rw [if_neg h2,if_neg (by omega)]
theorem FB {L:List Bool} {a k:Nat} (b:Bool) (h:a+k≤L.length):bI (setAt L a k b) a k b:=fun j hj=>by
 rw [cO b h,if_pos (by omega)]
theorem Ro {L:List Bool} {a k i m:Nat} (h:a+k≤L.length) (hf:bI (setAt L a k true) i m false):bI L i m false:=fun j hj=>by
 have:=hf j hj;rw [cO _ h] at this;by_cases h1:a≤i+j∧i+j<a+k
 · rw [if_pos h1] at this;cases this
 · rwa [if_neg h1] at this
theorem Gp {L:List Bool} {a k:Nat} {x y:Bool} (h:a+k≤L.length) (hy: ∀j,j<k→L.getD (a+j) false=y):setAt (setAt L a k x) a k y=L:=by
 apply f_
 · rw [aZ _ (by rw [aZ _ h];exact h),aZ _ h]
 · intro j hj
   rw [cO _ (by rw [aZ _ h];exact h),cO _ h];by_cases h1:a≤j∧j<a+k
   · rw [if_pos h1,←hy (j-a) (by omega),show a+(j-a)=j by omega]
   · rw [if_neg h1,if_neg h1]
theorem Vx {L:List Bool} {a k c:Nat} (x:Bool) (hc:c≤k) (h:a+k≤L.length):setAt (setAt L a c x) (a+c) (k-c) x=setAt L a k x:=by
 apply f_
 · rw [aZ _ (by rw [aZ _ (by omega)];omega),aZ _ (by omega),aZ _ h]
 · intro j hj
   rw [cO _ (by rw [aZ _ (by omega)];omega),cO _ (by omega),cO _ h];by_cases h1:a≤j∧j<a+k
   · rw [if_pos h1]
     by_cases h2:a+c≤j∧j<a+c+(k-c)
     · rw [if_pos h2]
     · rw [if_neg h2,if_pos (by omega)]
   · rw [if_neg h1,if_neg (by omega),if_neg (by omega)]
def left (L:List Bool):Nat:=L.count false
theorem count_set {L:List Bool} {j:Nat} (h:j<L.length) (b:Bool):(L.set j b).count false+(if L.getD j false=false then 1 else 0)=L.count false+(if b=false then 1 else 0):=by
 induction L generalizing j with
 |nil=>simp at h
 |cons x t ih=>
  cases j with
  |zero=>cases x<;>cases b<;>simp [List.getD_eq_getElem?_getD]
  |succ j=>
   have:=ih (j:=j) (by simpa using h);simp only [List.set_cons_succ,List.count_cons,List.getD_cons_succ];omega
theorem mZ {L:List Bool} {a k:Nat} (h:a+k≤L.length) (hf:bI L a k false):left (setAt L a k true)+k=left L:=by
 induction k with
 |zero=>rw [xI];rfl
 |succ k ih=>
  have h1:=ih (by omega) (hf.sub (Nat.le_refl _) (by omega));have h2:=count_set (L:=setAt L a k true) (j:=a+k) (by rw [aZ _ (by omega)];omega) true;rw [xH _ h] at h2;have e:(setAt L a k true).getD (a+k) false=false:=by rw [cO _ (by omega),if_neg (by omega)];exact hf.at (by omega) (by omega) _
  rw [e,if_pos rfl,if_neg (by decide)] at h2;simp only [left] at h1⊢;omega
theorem uq {L:List Bool} {a k:Nat} (h:a+k≤L.length) (hf:bI L a k true):left (setAt L a k false)=left L+k:=by
 have h1:=mZ (L:=setAt L a k false) (a:=a) (k:=k) (by rw [aZ _ h];exact h) (FB _ h);rw [Gp h (fun j hj=>hf.at (by omega) (by omega) _)] at h1;exact h1.symm
theorem yw (n:Nat):left (rep n false)=n:=by simp [left,rep]
theorem Y7 {L:List Bool} {j:Nat} (h:L.getD j true=false):1≤left L:=by
 have hl:j<L.length:=by
  rcases Nat.lt_or_ge j L.length with h1|h1
  · exact h1
  · rw [EM h1] at h;cases h
 have:false∈L:=by
  have e:L[j]'hl=false:=by simpa [List.getD_eq_getElem?_getD,hl] using h
  exact e▸List.getElem_mem hl
 exact List.count_pos_iff.2 this
def rowsFrom (at' i:Nat):List Bool→List (Nat×Nat)
 | []=>if at'<i then [(at',i-at')] else []
 |false::r=>rowsFrom at' (i+1) r
 |true::r=>(if at'<i then [(at',i-at')] else [])++rowsFrom (i+1) (i+1) r
def rows (L:List Bool):List (Nat×Nat):=rowsFrom 0 0 L
def sums (l:List (Nat×Nat)):Nat:=l.foldl (fun s x=>s+x.2) 0
theorem KQ (l:List (Nat×Nat)) (n:Nat):l.foldl (fun s x=>s+x.2) n=n+sums l:=by
 induction l generalizing n with
 |nil=>rfl
 |cons x t ih=>unfold sums;rw [List.foldl_cons,List.foldl_cons,ih,ih (0+x.2)];omega
theorem KO (l:List (Nat×Nat)) (x:Nat×Nat):sums (l++ [x])=sums l+x.2:=by simp [sums]
theorem uX (l m:List (Nat×Nat)):sums (l++m)=sums l+sums m:=by
 unfold sums;rw [List.foldl_append,KQ];rfl
theorem KP (r:List Bool): ∀at' i,at'≤i→sums (rowsFrom at' i r)=(i-at')+left r:=by
 induction r with
 |nil=>
  intro a i h;unfold rowsFrom;by_cases h1:a<i
  · rw [if_pos h1];simp [sums,left]
  · rw [if_neg h1];simp [sums,left];omega
 |cons x t ih=>
  intro a i h;cases x with
  |false=>unfold rowsFrom;rw [ih a (i+1) (by omega)];simp only [left,List.count_cons];simp;omega
  |true=>
   unfold rowsFrom;rw [uX,ih (i+1) (i+1) (by omega)];simp only [left,List.count_cons];by_cases h1:a<i
   · rw [if_pos h1];simp [sums]
   · rw [if_neg h1];simp [sums];omega
theorem Oo (L:List Bool):sums (rows L)=left L:=by
 have:=KP L 0 0 (Nat.le_refl _);unfold rows;omega
def Yf (n most:Nat):List Bool→Nat
 | []=>most
 |x::r=>Yf (bif x then 0 else n+1) (max most (bif x then 0 else n+1)) r
def longest (L:List Bool):Nat:=Yf 0 0 L
def Sy (l:List (Nat×Nat)):Nat:=l.foldl (fun s x=>max s x.2) 0
theorem KJ (r:List Bool): ∀at' i m,at'≤i→(rowsFrom at' i r).foldl (fun s x=>max s x.2) m=Yf (i-at') (max m (i-at')) r:=by
 induction r with
 |nil=>
  intro a i m h;unfold rowsFrom Yf;by_cases h1:a<i
  · rw [if_pos h1];rfl
  · rw [if_neg h1,show i-a=0 by omega];simp
 |cons x t ih=>
  intro a i m h;cases x with
  |false=>
   unfold rowsFrom Yf;rw [ih a (i+1) m (by omega)];simp only [cond_false];rw [show i+1-a=i-a+1 by omega]
   congr 1
   omega
  |true=>
   unfold rowsFrom Yf;rw [List.foldl_append,ih (i+1) (i+1) _ (by omega)];simp only [cond_true,Nat.sub_self];by_cases h1:a<i
   · rw [if_pos h1];rfl
   · rw [if_neg h1,show i-a=0 by omega];simp
theorem Oc (L:List Bool):Sy (rows L)=longest L:=by
 have:=KJ L 0 0 0 (Nat.le_refl _)
 simpa [rows,Sy,longest] using this
theorem Bo (l:List (Nat×Nat)) (n:Nat):n≤l.foldl (fun s x=>max s x.2) n:=by
 induction l generalizing n with
 |nil=>exact Nat.le_refl _
 |cons x t ih=>rw [List.foldl_cons];have:=ih (max n x.2);omega
theorem Ob {l:List (Nat×Nat)} {x:Nat×Nat} (h:x∈l) (n:Nat):x.2≤l.foldl (fun s x=>max s x.2) n:=by
 induction l generalizing n with
 |nil=>simp at h
 |cons y t ih=>
  rw [List.foldl_cons];rcases List.mem_cons.1 h with rfl|h
  · have:=Bo t (max n x.2);omega
  · exact ih h _
theorem Sw (l:List (Nat×Nat)) (n:Nat):l.foldl (fun s x=>max s x.2) n=n∨ ∃x∈l,l.foldl (fun s x=>max s x.2) n=x.2:=by
 induction l generalizing n with
 |nil=>exact .inl rfl
 |cons y t ih=>
  rw [List.foldl_cons];rcases ih (max n y.2) with h|⟨x,hx,h⟩
  · rw [h]
    rcases Nat.le_total n y.2 with h1|h1
    · exact .inr ⟨y,by simp,by omega⟩
    · exact .inl (by omega)
  · exact .inr ⟨x,by simp [hx],h⟩
def Low (L:List Bool) (k a:Nat):Prop:=bI L a k false∧ ∀b,b<a→ ¬bI L b k false
theorem Low.one {L:List Bool} {k a b:Nat} (h:Low L k a) (h':Low L k b):a=b:=by
 rcases Nat.lt_trichotomy a b with h1|h1|h1
 · exact absurd h.1 (h'.2 a h1)
 · exact h1
 · exact absurd h'.1 (h.2 b h1)
def low (L:List Bool) (k:Nat):Option Nat:=((rows L).find? fun x=>decide (k≤x.2)).map (·.1)
theorem jZ (L:List Bool) (k:Nat) (hk:1≤k) (r:List Bool): ∀at' i,at'≤i→r=L.drop i→i+r.length=L.length→bI L at' (i-at') false→(∀b,b<at'→ ¬bI L b k false)→
 (∀x,(rowsFrom at' i r).find? (fun x=>decide (k≤x.2))=some x→Low L k x.1)∧((rowsFrom at' i r).find? (fun x=>decide (k≤x.2))=none→ ∀b,¬bI L b k false):=by
 induction r with
 |nil=>
  intro a i h hr hl hf hb;simp only [List.length_nil,Nat.add_zero] at hl;have no: ¬k≤i-a→ ∀b,¬bI L b k false:=fun hn b h1=>by
   rcases Nat.lt_or_ge b a with h2|h2
   · exact hb b h2 h1
   · have:=h1.le hk;omega
  unfold rowsFrom;by_cases h1:a<i
  · rw [if_pos h1]
    by_cases h2:k≤i-a
    · refine ⟨fun x hx=> ?_,fun hx=> ?_⟩
      · rw [List.find?_cons_of_pos (by simpa using h2)] at hx
        injection hx with hx
        subst hx;exact ⟨hf.sub (Nat.le_refl _) (by omega),hb⟩
      · rw [List.find?_cons_of_pos (by simpa using h2)] at hx;cases hx
    · refine ⟨fun x hx=> ?_,fun _=>no h2⟩
      rw [List.find?_cons_of_neg (by simpa using h2)] at hx;cases hx
  · rw [if_neg h1]
    exact ⟨fun x hx=>(by cases hx),fun _=>no (by omega)⟩
 |cons y t ih=>
  intro a i h hr hl hf hb;simp only [List.length_cons] at hl;have hi:i<L.length:=by omega
  have ht:t=L.drop (i+1):=by rw [←List.drop_drop,←hr];rfl
  have hy:L.getD i false=y:=by
   have:(L.drop i)[0]? =some y:=by rw [←hr];rfl
   rw [List.getElem?_drop,Nat.add_zero] at this;simp [List.getD_eq_getElem?_getD,this]
  cases y with
  |false=>
   unfold rowsFrom;refine ih a (i+1) (by omega) ht (by omega) ?_ hb;rw [show i+1-a=i-a+1 by omega];exact hf.snoc (by omega) (by rw [show a+(i-a)=i by omega];exact hy)
  |true=>
   have go:=ih (i+1) (i+1) (by omega) ht (by omega) (by rw [Nat.sub_self];exact bI.none _ _ _);have no: ¬k≤i-a→ ∀b,b<i+1→ ¬bI L b k false:=fun hn b hb' h1=>by
    rcases Nat.lt_or_ge b a with h2|h2
    · exact hb b h2 h1
    · have:=h1.at (i:=i) (by omega) (by omega) false
      rw [hy] at this;cases this
   unfold rowsFrom;by_cases h1:a<i
   · rw [if_pos h1]
     by_cases h2:k≤i-a
     · rw [List.singleton_append,List.find?_cons_of_pos (by simpa using h2)]
       refine ⟨fun x hx=> ?_,fun hx=>by cases hx⟩;injection hx with hx
       subst hx;exact ⟨hf.sub (Nat.le_refl _) (by omega),hb⟩
     · rw [List.singleton_append,List.find?_cons_of_neg (by simpa using h2)]
       exact go (no h2)
   · rw [if_neg h1,List.nil_append]
     exact go (no (by omega))
theorem ET (L:List Bool) (k:Nat) (hk:1≤k):(∀x,(rows L).find? (fun x=>decide (k≤x.2))=some x→Low L k x.1)∧((rows L).find? (fun x=>decide (k≤x.2))=none→ ∀b,¬bI L b k false):=jZ L k hk L 0 0 (Nat.le_refl _) (by simp) (by simp) (bI.none _ _ _) (fun b hb=>by omega)
theorem jc {L:List Bool} {k a:Nat} (hk:1≤k) (h:low L k=some a):Low L k a:=by
 obtain ⟨x,hx,rfl⟩:=Option.map_eq_some_iff.1 h;exact (ET L k hk).1 x hx
theorem Em {L:List Bool} {k:Nat} (hk:1≤k) (h:low L k=none): ∀b,¬bI L b k false:=(ET L k hk).2 (Option.map_eq_none_iff.1 h)
theorem He {L:List Bool} {k a:Nat} (hk:1≤k) (h:Low L k a):low L k=some a:=by
 cases hx:low L k with
 |none=>exact absurd h.1 (Em hk hx a)
 |some b=>rw [(jc hk hx).one h]
theorem P6 {L:List Bool} {k:Nat} (hk:1≤k) (h: ∀b,¬bI L b k false):low L k=none:=by
 cases hx:low L k with
 |none=>rfl
 |some b=>exact absurd (jc hk hx).1 (h b)
theorem VE (L:List Bool) (k:Nat) (hk:1≤k):(low L k).isSome=decide (k≤longest L):=by
 rw [Bool.eq_iff_iff,decide_eq_true_iff,←Oc];constructor
 · intro h
   obtain ⟨a,ha⟩:=Option.isSome_iff_exists.1 h;obtain ⟨x,hx,_⟩:=Option.map_eq_some_iff.1 ha;have h1:=List.find?_some hx;have h2:=Ob (List.mem_of_find?_eq_some hx) 0;simp only [decide_eq_true_iff] at h1;exact Nat.le_trans h1 h2
 · intro h
   rcases Sw (rows L) 0 with h1|⟨x,hx,h1⟩
   · unfold Sy at h;omega
   · cases hn:low L k with
     |some a=>rfl
     |none=>
      have:=List.find?_eq_none.1 (Option.map_eq_none_iff.1 hn) x hx;simp only [decide_eq_true_iff] at this;unfold Sy at h;omega
end Go.Proofs.YtpibbcnkgdmcbaaGreatDoor.aj
