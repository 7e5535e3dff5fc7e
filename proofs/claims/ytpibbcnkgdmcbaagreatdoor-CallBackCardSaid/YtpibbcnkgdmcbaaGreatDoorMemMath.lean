/- Plain lists of bytes: numbers in bytes (the lowest first), rows laid over rows, patterns. No program is named here. -/
import Derived.Laws.CopyOwn
namespace Go.Proofs.YtpibbcnkgdmcbaaGreatDoor.ay
def val:List Nat→Nat
 | []=>0
 |c::t=>c+256*val t
def le:Nat→Nat→List Nat
 |0,_=> []
 |n+1,x=>x%256::le n (x/256)
def rep (n c:Nat):List Nat:=List.replicate n c
theorem dS (n c:Nat):(rep n c).length=n:=List.length_replicate
theorem EL {n c i:Nat} (h:i<n):(rep n c).getD i 0=c:=by
 simp [rep,List.getD_eq_getElem?_getD,h]
def lC (l:List Nat):Prop:= ∀x∈l,x<256
theorem lC.of {l:List Nat} (h:l.all (fun x=>decide (x<256))=true):lC l:=fun x hx=>by simpa using List.all_eq_true.1 h x hx
theorem lC.nil:lC []:=fun x h=>by simp at h
theorem lC.cons {c:Nat} {l:List Nat} (hc:c<256) (h:lC l):lC (c::l):=by
 intro x hx;rcases List.mem_cons.1 hx with rfl|hx
 · exact hc
 · exact h x hx
theorem lC.append {l m:List Nat} (h:lC l) (k:lC m):lC (l++m):=by
 intro x hx;rcases List.mem_append.1 hx with hx|hx
 · exact h x hx
 · exact k x hx
theorem lC.take {l:List Nat} (h:lC l) (n:Nat):lC (l.take n):=fun x hx=>h x (List.mem_of_mem_take hx)
theorem lC.drop {l:List Nat} (h:lC l) (n:Nat):lC (l.drop n):=fun x hx=>h x (List.mem_of_mem_drop hx)
theorem lC.splice {l m:List Nat} (h:lC l) (k:lC m) (o:Nat):lC (splice l o m):=(h.take o).append (k.append (h.drop _))
theorem lC.replicate {n c:Nat} (hc:c<256):lC (List.replicate n c):=fun x hx=>by rw [List.eq_of_mem_replicate hx];exact hc
theorem UZ {n c:Nat} (hc:c<256):lC (rep n c):=lC.replicate hc
theorem lC.getD {l:List Nat} (h:lC l) (i:Nat):l.getD i 0<256:=by
 rw [List.getD_eq_getElem?_getD];cases e:l[i]? with
 |none=>simp
 |some x=>exact h x (List.mem_of_getElem? e)
theorem length_le: ∀(n x:Nat),(le n x).length=n
 |0,_=>rfl
 |n+1,x=>by simp [le,length_le n]
theorem Q7: ∀(n x:Nat),lC (le n x)
 |0,_=>lC.nil
 |n+1,x=>lC.cons (Nat.mod_lt _ (by decide)) (Q7 n _)
theorem NP: ∀(n x:Nat),val (le n x)=x%256^n
 |0,x=>by simp [le,val];omega
 |n+1,x=>by
  simp only [le,val];rw [NP n (x/256),Nat.pow_succ,Nat.mul_comm (256^n) 256,Nat.mod_mul]
theorem F4: ∀{l:List Nat},lC l→val l<256^l.length
 | [],_=>by simp [val]
 |c::t,h=>by
  have h1:=h c (by simp);have h2:=F4 (l:=t) (fun x hx=>h x (by simp [hx]));simp only [val,List.length_cons,Nat.pow_succ];omega
theorem val_append: ∀(l m:List Nat),val (l++m)=val l+256^l.length*val m
 | [],m=>by simp [val]
 |c::t,m=>by
  simp only [List.cons_append,val,List.length_cons,Nat.pow_succ];rw [val_append t m,Nat.mul_add,Nat.add_assoc,Nat.mul_comm (256^t.length) 256,Nat.mul_assoc]
theorem nW {l:List Nat} {i:Nat} (h:i<l.length):l.take (i+1)=l.take i++ [l.getD i 0]:=by
 rw [List.take_succ_eq_append_getElem h];simp [List.getD_eq_getElem?_getD,h]
theorem zH {l:List Nat} {i:Nat} (h:i<l.length):val (l.take (i+1))=val (l.take i)+256^i*l.getD i 0:=by
 rw [nW h,val_append];have:(l.take i).length=i:=by simp;omega
 simp only [this,val,Nat.mul_zero,Nat.add_zero]
theorem Jp: ∀(k n x:Nat),k≤n→(le n x).take k=le k x
 |0,n,x,_=>by simp [le]
 |k+1,0,x,h=>by omega
 |k+1,n+1,x,h=>by simp only [le,List.take_succ_cons];rw [Jp k n _ (by omega)]
theorem sG: ∀(n i x:Nat),i<n→(le n x).getD i 0=x/256^i%256
 |0,i,x,h=>by omega
 |n+1,0,x,_=>by simp [le]
 |n+1,i+1,x,h=>by
  have:=sG n i (x/256) (by omega);simp only [le,List.getD_cons_succ];rw [this,Nat.div_div_eq_div_mul,Nat.pow_succ,Nat.mul_comm]
theorem le_succ (n x:Nat):le (n+1) x=le n x++ [x/256^n%256]:=by
 have h:=nW (l:=le (n+1) x) (i:=n) (by rw [length_le];omega);rw [List.take_of_length_le (by rw [length_le];omega),Jp n (n+1) x (by omega),sG (n+1) n x (by omega)] at h;exact h
theorem aT {L cs:List Nat} {o:Nat} (h:o+cs.length≤L.length):(splice L o cs).length=L.length:=length_splice L o cs h
theorem mP (L:List Nat) (o:Nat):splice L o []=L:=by simp [splice]
theorem fC {L cs:List Nat} {o:Nat} (h:o+cs.length≤L.length) (i:Nat):
 (splice L o cs).getD i 0=if o≤i∧i<o+cs.length then cs.getD (i-o) 0 else L.getD i 0:=by
 unfold splice;simp only [List.getD_eq_getElem?_getD];by_cases h1:i<o
 · rw [if_neg (by omega),List.getElem?_append_left (by simp;omega),List.getElem?_take_of_lt h1]
 · rw [List.getElem?_append_right (by simp;omega)]
   have hl:(L.take o).length=o:=by simp;omega
   rw [hl];by_cases h2:i<o+cs.length
   · rw [if_pos (by omega),List.getElem?_append_left (by omega)]
   · rw [if_neg (by omega),List.getElem?_append_right (by omega),List.getElem?_drop,show o+cs.length+(i-o-cs.length)=i by omega]
theorem f_ {L M:List Nat} (hl:L.length=M.length) (h: ∀i,i<L.length→L.getD i 0=M.getD i 0):L=M:=by
 apply List.ext_getElem hl;intro i h1 h2;have:=h i h1
 simpa [List.getD_eq_getElem?_getD,h1,h2] using this
def part (L:List Nat) (o n:Nat):List Nat:=(L.drop o).take n
theorem dM {L:List Nat} {o n:Nat} (h:o+n≤L.length):(part L o n).length=n:=by simp [part];omega
theorem jq {L:List Nat} {o n i:Nat} (hi:i<n):(part L o n).getD i 0=L.getD (o+i) 0:=by
 simp [part,List.getD_eq_getElem?_getD,List.getElem?_take_of_lt hi,List.getElem?_drop]
theorem lC.part {l:List Nat} (h:lC l) (o n:Nat):lC (part l o n):=(h.drop o).take n
theorem vv {L cs:List Nat} {o:Nat} (h:o+cs.length≤L.length):part (splice L o cs) o cs.length=cs:=by
 apply f_
 · rw [dM (by rw [aT h];exact h)]
 · intro i hi
   rw [dM (by rw [aT h];exact h)] at hi;rw [jq hi,fC h,if_pos (by omega)]
   congr 1;omega
theorem vW {L cs:List Nat} {o p n:Nat} (h:o+cs.length≤L.length) (h1:p+n≤o∨o+cs.length≤p) (hp:p+n≤L.length):part (splice L o cs) p n=part L p n:=by
 apply f_
 · rw [dM (by rw [aT h];omega),dM hp]
 · intro i hi
   rw [dM (by rw [aT h];omega)] at hi;rw [jq hi,fC h,if_neg (by omega),jq hi]
theorem qh {L a b:List Nat} {o:Nat} (h:o+(a++b).length≤L.length):splice (splice L o a) (o+a.length) b=splice L o (a++b):=by
 have hl:o+a.length≤L.length:=by simp at h;omega
 simp only [List.length_append] at h;apply f_
 · rw [aT (by rw [aT hl];omega),aT hl,aT (by simp;omega)]
 · intro i hi
   rw [aT (by rw [aT hl];omega),aT hl] at hi;rw [fC (by rw [aT hl];omega),fC hl,fC (by simp;omega)];simp only [List.length_append];by_cases c1:o+a.length≤i∧i<o+a.length+b.length
   · rw [if_pos c1,if_pos (by omega)]
     simp only [List.getD_eq_getElem?_getD];rw [List.getElem?_append_right (by omega)]
     congr 2;omega
   · rw [if_neg c1]
     by_cases c2:o≤i∧i<o+a.length
     · rw [if_pos c2,if_pos (by omega)]
       simp only [List.getD_eq_getElem?_getD];rw [List.getElem?_append_left (by omega)]
     · rw [if_neg c2,if_neg (by omega)]
def iC (L:List Nat) (a x:Nat):List Nat:=splice L a (le 8 x)
theorem fQ {L:List Nat} {a x:Nat} (h:a+8≤L.length):(iC L a x).length=L.length:=aT (by rw [length_le];exact h)
theorem LB {L:List Nat} {a x:Nat} (h:a+8≤L.length):part (iC L a x) a 8=le 8 x:=by
 have:=vv (L:=L) (cs:=le 8 x) (o:=a) (by rw [length_le];exact h)
 rwa [length_le] at this
theorem NM {L:List Nat} {a x:Nat} (h:a+8≤L.length) (hx:x≤18446744073709551615):val (part (iC L a x) a 8)=x:=by
 rw [LB h,NP];exact Nat.mod_eq_of_lt (by omega)
theorem zM {L:List Nat} {a x p n:Nat} (h:a+8≤L.length) (h1:p+n≤a∨a+8≤p) (hp:p+n≤L.length):part (iC L a x) p n=part L p n:=
 vW (by rw [length_le];exact h) (by rw [length_le];exact h1) hp
def fill (n:Nat) (p:List Nat):List Nat:=(List.range n).map fun i=>p.getD (i%p.length) 0
theorem bH (n:Nat) (p:List Nat):(fill n p).length=n:=by simp [fill]
theorem l9 {n i:Nat} (p:List Nat) (h:i<n):(fill n p).getD i 0=p.getD (i%p.length) 0:=by
 simp [fill,List.getD_eq_getElem?_getD,h]
theorem QH (n:Nat):fill n []=rep n 0:=by
 unfold rep;apply f_ (by simp [bH]);intro i hi;rw [bH] at hi;rw [l9 _ hi];simp [List.getD_eq_getElem?_getD,hi]
theorem Fg {n:Nat} {p:List Nat} (h:lC p):lC (fill n p):=by
 intro x hx;obtain ⟨i,_,rfl⟩:=List.mem_map.1 hx;exact h.getD _
theorem Ir {n:Nat} {p:List Nat}:p.take (min p.length n)=fill (min p.length n) p:=by
 apply f_
 · rw [bH];simp
 · intro i hi
   have hi':i<min p.length n:=by simpa using hi
   rw [l9 _ hi',Nat.mod_eq_of_lt (by omega)];simp only [List.getD_eq_getElem?_getD];rw [List.getElem?_take_of_lt hi']
theorem Iq {d m:Nat} {p:List Nat} (hd:d%p.length=0) (hm:m≤d):fill d p++(fill d p).take m=fill (d+m) p:=by
 apply f_
 · simp [bH];omega
 · intro i hi
   have hi':i<d+m:=by simp [bH] at hi;omega
   rw [l9 _ hi'];simp only [List.getD_eq_getElem?_getD];by_cases h:i<d
   · rw [List.getElem?_append_left (by rw [bH];exact h)]
     have:=l9 p h;simp only [List.getD_eq_getElem?_getD] at this;rw [this]
   · rw [List.getElem?_append_right (by rw [bH];omega),bH,List.getElem?_take_of_lt (by omega)]
     have:=l9 p (show i-d<d by omega);simp only [List.getD_eq_getElem?_getD] at this;rw [this];have e:(i-d)%p.length=i%p.length:=by
      obtain ⟨k,rfl⟩: ∃k,i=d+k:=⟨i-d,by omega⟩;rw [Nat.add_sub_cancel_left,Nat.add_mod d k,hd,Nat.zero_add,Nat.mod_mod]
     rw [e]
theorem Wx (X c i:Nat) (hX:X<256^i):X|||(c*2^(8*i))=X+256^i*c:=by
 have e:(256:Nat)^i=2^(8*i):=by rw [show (256:Nat)=2^8 by decide,←Nat.pow_mul]
 rw [e] at hX⊢;rw [Nat.or_comm,Nat.mul_comm c,←Nat.two_pow_add_eq_or_of_lt hX c];omega
end Go.Proofs.YtpibbcnkgdmcbaaGreatDoor.ay
