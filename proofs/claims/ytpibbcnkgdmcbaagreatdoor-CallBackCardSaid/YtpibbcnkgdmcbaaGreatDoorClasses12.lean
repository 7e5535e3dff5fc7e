/- Classes12: texts of layers below, joined (ClassMath2 RefC1 RefC2 Pop Pow2 Up ClassCl ClassA ClassB RefC3 ClassC ClassD). -/
import Derived.Test.YtpibbcnkgdmcbaaGreatDoorClassMath
import Derived.Test.YtpibbcnkgdmcbaaGreatDoorElems
import Derived.Test.YtpibbcnkgdmcbaaGreatDoorRows
import Derived.WalkKit
import Derived.WalkSpells
import Derived.WalkLawsBesides
import Derived.Outline
import Derived.Lib.Hide
import Derived.Below
import Derived.Deep.RegionWith
import Derived.RegionTactic
import Derived.Laws.BitsAllLaws
import Derived.Laws.Small
set_option linter.unusedVariables false
set_option maxRecDepth 100000
set_option maxHeartbeats 1000000
namespace Go.Proofs.YtpibbcnkgdmcbaaGreatDoor.au
theorem zq {a:Nat} (h:iQ a=true):a=1∨a=2∨a=4∨a=8∨a=16∨a=32∨a=64∨a=128∨a=256∨a=512∨a=1024:=by
 unfold iQ at h
 simpa using h
theorem XL {b:Nat} (h:b≤10):iQ (2^b)=true:=by
 have: ∀b:Fin 11,iQ (2^b.1)=true:=by decide
 exact this ⟨b,by omega⟩
theorem XK {a:Nat} (h:iQ a=true):1024%a=0:=by
 rcases zq h with rfl|rfl|rfl|rfl|rfl|rfl|rfl|rfl|rfl|rfl|rfl<;>rfl
theorem Mx {n a:Nat} (h:iQ a=true) (hn:n≤1024): ∃c,oU n a=some c∧c<12∧n≤aK c∧aK c%a=0∧ ∀d,d<c→ ¬(n≤aK d∧aK d%a=0):=by
 cases hf:oU n a with
 |none=>
  have:=oV hf 11 (by decide);simp only [decide_eq_false_iff_not] at this;exact absurd ⟨hn,XK h⟩ this
 |some c=>
  obtain ⟨h1,h2,h3⟩:=jH hf;simp only [decide_eq_true_eq] at h2;exact ⟨c,rfl,h1,h2.1,h2.2,fun d hd=>of_decide_eq_false (h3 d hd)⟩
theorem AQ {n a:Nat} (hn:1024<n):oU n a=none:=
 uM fun c hc=>decide_eq_false (fun h=>by have:=(iK hc).2;omega)
theorem kG {n a:Nat} (h:iQ a=true) (hn:n≤1024): ∃c:Nat,dV n a=(⟨(c:Int),aM c,0,aK c⟩,0)∧c<12∧n≤aK c∧aK c%a=0∧ ∀d,d<c→ ¬(n≤aK d∧aK d%a=0):=by
 obtain ⟨c,h1,h2,h3,h4,h5⟩:=Mx (n:=max n 1) h (by omega);refine ⟨c, ?_,h2,by omega,h4,fun d hd hx=>h5 d hd ⟨?_,hx.2⟩⟩
 · unfold dV;rw [if_pos ⟨h,by omega⟩,h1]
 · have:=(iK (c:=d) (by omega)).1;have:=hx.1;omega
theorem oQ {n a:Nat} (h:iQ a=true) (h1:1024<n) (h2:n≤15360):dV n a=(⟨-1,up n 1024,0,up n 1024*1024⟩,0):=by
 unfold dV;rw [if_pos ⟨h,by omega⟩,show max n 1=n by omega,AQ h1];simp only;rw [if_pos h2]
theorem kH {n a:Nat} (h:iQ a=true) (h1:15360<n) (h2:n≤1048576):dV n a=(⟨-1,0,up n 16384,up n 16384*16384⟩,0):=by
 unfold dV;rw [if_pos ⟨h,h2⟩,show max n 1=n by omega,AQ (by omega)];simp only;rw [if_neg (by omega)]
theorem yP {n a:Nat} (h: ¬(iQ a=true∧n≤1048576)):dV n a=(Pl.none,2):=by unfold dV;rw [if_neg h]
theorem J9 {n a:Nat} (h:iQ a=true) (h2:n≤1048576):(dV n a).2=0:=by
 rcases Nat.lt_or_ge 1024 n with h3|h3
 · rcases Nat.lt_or_ge 15360 n with h4|h4
   · rw [kH h h4 h2]
   · rw [oQ h h3 h4]
 · obtain ⟨c,e,_⟩:=kG h h3
   rw [e]
theorem VR {n a:Nat} (h:iQ a=true) (h2:n≤1048576):
 n≤(dV n a).1.us∧1≤(dV n a).1.us∧(dV n a).1.us%16=0∧(dV n a).1.us≤1048576:=by
 rcases Nat.lt_or_ge 1024 n with h3|h3
 · rcases Nat.lt_or_ge 15360 n with h4|h4
   · rw [kH h h4 h2];simp only [up];omega
   · rw [oQ h h3 h4];simp only [up];omega
 · obtain ⟨c,e,hc,h5,_⟩:=kG h h3
   rw [e];have:=iK hc;have:=Js hc;simp only;omega
theorem BO:iQ 1=true:=by decide
theorem aaO {n a:Nat} (h:iQ a=true) (ha:a≤16) (h2:n≤1048576):dV n a=dV n 1:=by
 have hd: ∀c,c<12→aK c%a=0:=fun c hc=>by
  have h16:=Js hc;have:16%a=0:=by
   rcases zq h with rfl|rfl|rfl|rfl|rfl|rfl|rfl|rfl|rfl|rfl|rfl<;>first|rfl|omega
  exact Nat.mod_eq_zero_of_dvd (Nat.dvd_trans (Nat.dvd_of_mod_eq_zero this) (Nat.dvd_of_mod_eq_zero h16))
 have hf: ∀m,oU m a=oU m 1:=fun m=>by
  cases hx:oU m 1 with
  |none=>
   refine uM fun c hc=> ?_;have:=oV hx c hc;simp only [decide_eq_false_iff_not] at this⊢;exact fun y=>this ⟨y.1,Nat.mod_one _⟩
  |some c=>
   obtain ⟨h1,h3,h4⟩:=jH hx;simp only [decide_eq_true_eq] at h3;refine uL h1 (decide_eq_true ⟨h3.1,hd c h1⟩) fun d hdc=> ?_;have:=h4 d hdc;simp only [decide_eq_false_iff_not] at this⊢;exact fun y=>this ⟨y.1,Nat.mod_one _⟩
 unfold dV;rw [if_pos (show iQ a=true∧n≤1048576 from ⟨h,h2⟩),if_pos (show iQ 1=true∧n≤1048576 from ⟨BO,h2⟩),hf]
theorem Xt {n:Nat} (h1:1≤n) (h2:n≤1048576):(dV n 1).1.us≤max 16 (2*n):=by
 rcases Nat.lt_or_ge 1024 n with h3|h3
 · rcases Nat.lt_or_ge 15360 n with h4|h4
   · rw [kH BO h4 h2];simp only [up];omega
   · rw [oQ BO h3 h4];simp only [up];omega
 · obtain ⟨c,e,hc,h5,h6,h7⟩:=kG BO h3
   rw [e];simp only;rcases Nat.eq_zero_or_pos c with h0|h0
   · subst h0
     have:aK 0=16:=rfl;omega
   · have h8:aK (c-1)<n:=by
      rcases Nat.lt_or_ge (aK (c-1)) n with x|x
      · exact x
      · exact absurd ⟨x,Nat.mod_one _⟩ (h7 (c-1) (by omega))
     have h9:aK c≤2*aK (c-1):=kT (P:=fun c=>1≤c→aK c≤2*aK (c-1)) (by decide) c hc h0;omega
theorem aaV {a:Nat} (h1:1≤a) (h2:a≤1024):(a&&&(a-1)=0)↔iQ a=true:=by
 have: ∀a:Fin 1025,1≤a.1→((a.1&&&(a.1-1)=0)↔iQ a.1=true):=by decide+kernel
 exact this ⟨a,by omega⟩ h1
theorem YX {c:Nat} (h:c<12):ofN (aK c)=some c:=
 uL h (decide_eq_true (Nat.le_refl _)) fun d hd=>decide_eq_false (by have:=KZ hd h;omega)
end Go.Proofs.YtpibbcnkgdmcbaaGreatDoor.au
namespace Go.Proofs.YtpibbcnkgdmcbaaGreatDoor
open Go.RowKit au
def tF (w:World) (g:Nat):Prop:=aV w g 22 #[.int .u64 16, .int .u64 32, .int .u64 48, .int .u64 64, .int .u64 96, .int .u64 128, .int .u64 192, .int .u64 256, .int .u64 384, .int .u64 512, .int .u64 768, .int .u64 1024]
theorem tF.cell {w:World} {g:Nat} (h:tF w g) {j:Nat} (hj:j<12):w.cell? ⟨g,j,none⟩=some (.int .u64 ((aK j:Nat):Int)):=by
 rw [aV.cell h];exact kT (P:=fun j=>(#[Value.int .u64 16, .int .u64 32, .int .u64 48, .int .u64 64, .int .u64 96, .int .u64 128, .int .u64 192, .int .u64 256, .int .u64 384, .int .u64 512, .int .u64 768, .int .u64 1024])[j]? =some (.int .u64 ((aK j:Nat):Int))) (fun c=>by
  rcases c with ⟨c,hc⟩
  rcases c with _|_|_|_|_|_|_|_|_|_|_|_|c
  all_goals first|rfl|omega) j hj
theorem tF.below {w w':World} {g:Nat} (h:tF w g) (hb:Below w.heap.size w w'):tF w' g:=aV.upd h (ak hb) id
def ofC (o:Option Nat):Nat:=o.getD 0
end Go.Proofs.YtpibbcnkgdmcbaaGreatDoor
namespace Go.Proofs.YtpibbcnkgdmcbaaGreatDoor
open Go.RowKit au
end Go.Proofs.YtpibbcnkgdmcbaaGreatDoor
namespace Go.Proofs.YtpibbcnkgdmcbaaGreatDoor.aR
def pop:Nat→Nat→Nat
 |0,_=>0
 |n+1,x=>x%2+pop n (x/2)
theorem vk: ∀(n x:Nat),x<2^n→(pop n x=0↔x=0)
 |0,x,h=>by simp at h;subst h;simp [pop]
 |n+1,x,h=>by
  have ih:=vk n (x/2) (by rw [Nat.pow_succ] at h;omega);simp only [pop];omega
theorem xS: ∀(n x:Nat),x<2^n→(pop n x=1↔ ∃k,k<n∧x=2^k)
 |0,x,h=>by
  simp at h;subst h;constructor
  · intro h;simp [pop] at h
  · rintro ⟨k,hk,_⟩;omega
 |n+1,x,h=>by
  have hx:x/2<2^n:=by rw [Nat.pow_succ] at h;omega
  have ih:=xS n (x/2) hx;have iz:=vk n (x/2) hx;simp only [pop];constructor
  · intro h1
    by_cases ho:x%2=1
    · have:x/2=0:=iz.1 (by omega)
      exact ⟨0,by omega,by omega⟩
    · obtain ⟨k,hk,e⟩:=ih.1 (by omega)
      exact ⟨k+1,by omega,by rw [Nat.pow_succ];omega⟩
  · rintro ⟨k,hk,e⟩
    cases k with
    |zero=>
     have e':x=1:=by simpa using e
     subst e';have:=iz.2 (by decide);simp at this⊢;exact this
    |succ k=>
     rw [Nat.pow_succ] at e;have:=ih.2 ⟨k,by omega,by omega⟩;omega
theorem JH: ∀(m n x:Nat),pop (m+n) x=pop m (x%2^m)+pop n (x/2^m)
 |0,n,x=>by simp [pop]
 |m+1,n,x=>by
  have e:m+1+n=(m+n)+1:=by omega
  rw [e];simp only [pop];rw [JH m n (x/2)];have e1:x%2^(m+1)%2=x%2:=Nat.mod_mod_of_dvd x ⟨2^m,by rw [Nat.pow_succ,Nat.mul_comm]⟩;have e2:x%2^(m+1)/2=x/2%2^m:=by
   rw [Nat.pow_succ,Nat.mul_comm,Nat.mod_mul_right_div_self]
  have e3:x/2^(m+1)=x/2/2^m:=by
   rw [Nat.pow_succ,Nat.mul_comm,Nat.div_div_eq_div_mul]
  rw [e1,e2,e3];omega
def rep (c:Nat):Nat→Nat
 |0=>0
 |n+1=>c+256*rep c n
theorem kC (a c h d:Nat) (ha:a<256) (hc:c<256):(a+256*h)&&&(c+256*d)=(a&&&c)+256*(h&&&d):=by
 have key: ∀(u v:Nat),u<256→u+256*v=2^8*v+u:=by intro u v _;omega
 have hac:(a&&&c)<256:=Nat.and_lt_two_pow a (n:=8) (by omega);apply Nat.eq_of_testBit_eq;intro i;rw [key _ _ ha,key _ _ hc,key _ _ hac,Nat.testBit_and,Nat.testBit_two_pow_mul_add _ (by omega),Nat.testBit_two_pow_mul_add _ (by omega),Nat.testBit_two_pow_mul_add _ (by omega)];split<;>simp [Nat.testBit_and]
def s1 (n x:Nat):Nat:=(x/2&&&rep 85 n)+(x&&&rep 85 n)
def s2 (n x:Nat):Nat:=(x/4&&&rep 51 n)+(x&&&rep 51 n)
def s3 (n x:Nat):Nat:=(x/16+x)&&&rep 15 n
def t1 (a:Nat):Nat:=(a/2&&&85)+(a&&&85)
def t2 (a:Nat):Nat:=(a/4&&&51)+(a&&&51)
def t3 (a:Nat):Nat:=(a/16+a)&&&15
theorem Y6: ∀a:Fin 256,∀r:Fin 2,(a.val/2+128*r.val)&&&85=a.val/2&&&85:=by decide+kernel
theorem Y5: ∀a:Fin 256,∀r:Fin 4,(a.val/4+64*r.val)&&&51=a.val/4&&&51:=by decide+kernel
theorem Vw: ∀a:Fin 256,t1 a.val≤170:=by decide+kernel
theorem YE: ∀a:Fin 256,t2 (t1 a.val)≤68:=by decide+kernel
theorem Oi: ∀a:Fin 256,t2 (t1 a.val)/16≤4∧t2 (t1 a.val)%16≤4:=by decide+kernel
theorem Y4: ∀a:Fin 80,∀r:Fin 8,(a.val/16+16*r.val+a.val)%256&&&15=t3 a.val∨5≤a.val/16∨5≤a.val%16:=by decide+kernel
theorem Xx: ∀a:Fin 256,t3 (t2 (t1 a.val))=pop 8 a.val:=by decide+kernel
theorem TP: ∀a:Fin 256,pop 8 a.val≤8:=by decide+kernel
theorem Jw (n a h:Nat) (ha:a<256):s1 (n+1) (a+256*h)=t1 a+256*s1 n h:=by
 have e:(a+256*h)/2=(a/2+128*(h%2))+256*(h/2):=by omega
 have m:=Y6 ⟨a,ha⟩ ⟨h%2,by omega⟩;simp only at m;simp only [s1,rep,t1];rw [e,kC _ _ _ _ (by omega) (by omega),kC _ _ _ _ ha (by omega),m];omega
theorem Jv (n a h:Nat) (ha:a<256):s2 (n+1) (a+256*h)=t2 a+256*s2 n h:=by
 have e:(a+256*h)/4=(a/4+64*(h%4))+256*(h/4):=by omega
 have m:=Y5 ⟨a,ha⟩ ⟨h%4,by omega⟩;simp only at m;simp only [s2,rep,t2];rw [e,kC _ _ _ _ (by omega) (by omega),kC _ _ _ _ ha (by omega),m];omega
theorem Tn (n a h:Nat) (ha:a<80) (h1:a/16≤4) (h2:a%16≤4) (hh:h%16≤4):s3 (n+1) (a+256*h)=t3 a+256*s3 n h:=by
 have e:(a+256*h)/16+(a+256*h)=(a/16+16*(h%16)+a)+256*(h/16+h):=by omega
 have m:=Y4 ⟨a,ha⟩ ⟨h%16,by omega⟩;simp only at m;have hlt:a/16+16*(h%16)+a<256:=by omega
 rw [Nat.mod_eq_of_lt hlt] at m;simp only [s3,rep];rw [e,kC _ _ _ _ hlt (by omega)];rcases m with m|m|m
 · rw [m]
 · omega
 · omega
def bytes (n x:Nat):Nat:=match n with
 |0=>0
 |n+1=>pop 8 (x%256)+256*bytes n (x/256)
theorem WR (n x:Nat):s2 n (s1 n x)%16≤4:=by
 cases n with
 |zero=>simp [s2,rep]
 |succ n=>
  have e:x=x%256+256*(x/256):=by omega
  have h1:=Vw ⟨x%256,by omega⟩;have h2:=Oi ⟨x%256,by omega⟩;simp only at h1 h2;rw [e,Jw _ _ _ (by omega),Jv _ _ _ (by omega)];omega
theorem YF: ∀(n x:Nat),s3 n (s2 n (s1 n x))=bytes n x
 |0,x=>by simp [s3,rep,bytes]
 |n+1,x=>by
  have e:x=x%256+256*(x/256):=by omega
  have h1:=Vw ⟨x%256,by omega⟩;have h2:=Oi ⟨x%256,by omega⟩;have h3:=Xx ⟨x%256,by omega⟩;have h4:=WR n (x/256);have h5:=YE ⟨x%256,by omega⟩;simp only at h1 h2 h3 h5;have ee:s3 (n+1) (s2 (n+1) (s1 (n+1) x))=s3 (n+1) (s2 (n+1) (s1 (n+1) (x%256+256*(x/256)))):=by rw [←e]
  rw [ee,Jw _ _ _ (by omega),Jv _ _ _ (by omega),Tn _ _ _ (by omega) (by omega) (by omega) h4,h3,YF n (x/256)];rfl
def qx (x:Nat):Nat:=x+x/256
def sJ (x:Nat):Nat:=x+x/65536
def vJ (x:Nat):Nat:=x+x/4294967296
theorem YS (x:Nat):pop 64 x=pop 8 (x%256)+pop 8 (x/256%256)+pop 8 (x/65536%256)+pop 8 (x/16777216%256)+pop 8 (x/4294967296%256)+pop 8 (x/1099511627776%256)+pop 8 (x/281474976710656%256)+pop 8 (x/72057594037927936%256):=by
 have s: ∀n y,pop (8+n) y=pop 8 (y%256)+pop n (y/256):=fun n y=>JH 8 n y;rw [show (64:Nat)=8+(8+(8+(8+(8+(8+(8+(8+0))))))) from rfl,s,s,s,s,s,s,s,s];simp only [Nat.div_div_eq_div_mul,pop];simp only [Nat.reduceMul,Nat.add_zero];omega
theorem folds (x:Nat):
 let b:=bytes 8 x
 b<651061555542690057∧qx b<18446744073709551616∧sJ (qx b)<18446744073709551616∧vJ (sJ (qx b))<9223372036854775808∧vJ (sJ (qx b))%128=pop 64 x:=by
 have p: ∀y,pop 8 (y%256)≤8:=fun y=>TP ⟨y%256,by omega⟩;have q0:=p x;have q1:=p (x/256);have q2:=p (x/65536);have q3:=p (x/16777216);have q4:=p (x/4294967296);have q5:=p (x/1099511627776);have q6:=p (x/281474976710656);have q7:=p (x/72057594037927936);rw [YS];simp only [bytes,Nat.div_div_eq_div_mul,Nat.reduceMul];generalize pop 8 (x%256)=a0 at*;generalize pop 8 (x/256%256)=a1 at*;generalize pop 8 (x/65536%256)=a2 at*;generalize pop 8 (x/16777216%256)=a3 at*
 generalize pop 8 (x/4294967296%256)=a4 at*;generalize pop 8 (x/1099511627776%256)=a5 at*;generalize pop 8 (x/281474976710656%256)=a6 at*;generalize pop 8 (x/72057594037927936%256)=a7 at*
 clear p;have f1:qx (a0+256*(a1+256*(a2+256*(a3+256*(a4+256*(a5+256*(a6+256*(a7+256*0))))))))=(a0+a1)+256*((a1+a2)+256*((a2+a3)+256*((a3+a4)+256*((a4+a5)+256*((a5+a6)+256*((a6+a7)+256*a7)))))):=by
  unfold qx;omega
 have f2: ∀b0 b1 b2 b3 b4 b5 b6 b7:Nat,b0≤16→b1≤16→b2≤16→b3≤16→b4≤16→b5≤16→b6≤16→b7≤16→sJ (b0+256*(b1+256*(b2+256*(b3+256*(b4+256*(b5+256*(b6+256*b7)))))))=(b0+b2)+256*((b1+b3)+256*((b2+b4)+256*((b3+b5)+256*((b4+b6)+256*((b5+b7)+256*(b6+256*b7)))))):=by
  intros;unfold sJ;omega
 have f3: ∀b0 b1 b2 b3 b4 b5 b6 b7:Nat,b0≤32→b1≤32→b2≤32→b3≤32→b4≤32→b5≤32→b6≤32→b7≤32→vJ (b0+256*(b1+256*(b2+256*(b3+256*(b4+256*(b5+256*(b6+256*b7)))))))=(b0+b4)+256*((b1+b5)+256*((b2+b6)+256*((b3+b7)+256*(b4+256*(b5+256*(b6+256*b7)))))):=by
  intros;unfold vJ;omega
 rw [f1,f2 _ _ _ _ _ _ _ _ (by omega) (by omega) (by omega) (by omega) (by omega) (by omega) (by omega) (by omega),f3 _ _ _ _ _ _ _ _ (by omega) (by omega) (by omega) (by omega) (by omega) (by omega) (by omega) (by omega)];refine ⟨by omega,by omega,by omega,by omega,by omega⟩
def uy (x:Nat):Bool:=x !=0&&(x&&&(x-1))==0
theorem Ey (x:Nat):uy x=true↔ ∃k,x=2^k:=by
 have:= @Nat.ne_zero_and_sub_one_eq_zero_iff_isPowerOfTwo x;unfold uy;simp only [Bool.and_eq_true,bne_iff_ne,beq_iff_eq];rw [this];rfl
theorem JX (x:Nat) (h:x<2^64):uy x=true↔ ∃k,k<64∧x=2^k:=by
 rw [Ey];constructor
 · rintro ⟨k,e⟩
   exact ⟨k,by subst e;exact (Nat.pow_lt_pow_iff_right (by decide)).1 h,e⟩
 · rintro ⟨k,_,e⟩;exact ⟨k,e⟩
theorem Pk (x:Nat) (h:x<18446744073709551616):(pop 64 x==1)=uy x:=by
 rw [Bool.eq_iff_iff,beq_iff_eq,xS 64 x h,JX x h]
theorem Fw (x k:Nat) (hx:x<18446744073709551616) (_hk:k<64):x&&&(18446744073709551615-(2^k-1))=x/2^k*2^k:=by
 apply Nat.eq_of_testBit_eq;intro i;have hp:2^k<18446744073709551616:=Nat.pow_lt_pow_of_lt (a:=2) (n:=k) (m:=64) (by decide) _hk;have hp0:0<2^k:=Nat.two_pow_pos k;have e:18446744073709551615-(2^k-1)=2^64-((2^k-1)+1):=by omega
 rw [e,Nat.testBit_and,Nat.testBit_two_pow_sub_succ (by omega),Nat.testBit_two_pow_sub_one,Nat.testBit_mul_two_pow,Nat.testBit_div_two_pow];by_cases hi:i<64
 · by_cases hki:k≤i
   · have h2:i-k+k=i:=by omega
     simp [hi,hki,h2]
   · simp [hki];omega
 · have:x.testBit i=false:=Nat.testBit_lt_two_pow (Nat.lt_of_lt_of_le (show x<2^64 from hx) (Nat.pow_le_pow_right (by decide) (by omega)))
   have h3: ∀hki:k≤i,i-k+k=i:=by omega
   by_cases hki:k≤i
   · simp [this,hi,h3 hki]
   · simp [this,hki]
end Go.Proofs.YtpibbcnkgdmcbaaGreatDoor.aR
namespace Go.Proofs.YtpibbcnkgdmcbaaGreatDoor
open Go.RowKit
theorem Tv {k:IntKind} {a b:Int} (h:a=b):Ending.returned (.int k a)= .returned (.int k b):=by rw [h]
theorem Ld {a b:Bool} (h:a=b):Ending.returned (.bool a)= .returned (.bool b):=by rw [h]
namespace aR
theorem lF (a:Nat) (h:a<18446744073709551616):IntKind.u64.wrap (a:Int)=(a:Int):=by
 rw [IntKind.wrap_u64];omega
theorem Y3 (x:Nat) (hx:x≤18446744073709551615):IntKind.u64.wrap (bits .and .u64 ((x:Int)/2) 6148914691236517205+bits .and .u64 (x:Int) 6148914691236517205)=((s1 8 x:Nat):Int):=by
 have e1:((x:Int)/2)=((x/2:Nat):Int):=by omega
 have e2:(6148914691236517205:Int)=((6148914691236517205:Nat):Int):=rfl;have r:rep 85 8=6148914691236517205:=by decide+kernel
 have b1:x/2&&&6148914691236517205≤6148914691236517205:=Nat.and_le_right;have b2:x&&&6148914691236517205≤6148914691236517205:=Nat.and_le_right;rw [e1,e2,u64_and_nat _ _ (by omega) (by omega),u64_and_nat _ _ (by omega) (by omega),←Int.natCast_add,lF _ (by omega)];unfold s1;rw [r]
theorem Y2 (y:Nat) (hy:y≤18446744073709551615):IntKind.u64.wrap (bits .and .u64 ((y:Int)/4) 3689348814741910323+bits .and .u64 (y:Int) 3689348814741910323)=((s2 8 y:Nat):Int):=by
 have e1:((y:Int)/4)=((y/4:Nat):Int):=by omega
 have e2:(3689348814741910323:Int)=((3689348814741910323:Nat):Int):=rfl;have r:rep 51 8=3689348814741910323:=by decide+kernel
 have b1:y/4&&&3689348814741910323≤3689348814741910323:=Nat.and_le_right;have b2:y&&&3689348814741910323≤3689348814741910323:=Nat.and_le_right;rw [e1,e2,u64_and_nat _ _ (by omega) (by omega),u64_and_nat _ _ (by omega) (by omega),←Int.natCast_add,lF _ (by omega)];unfold s2;rw [r]
theorem Y1 (z:Nat) (hz:z≤16000000000000000000):bits .and .u64 (IntKind.u64.wrap ((z:Int)/16+(z:Int))) 1085102592571150095=((s3 8 z:Nat):Int):=by
 have e1:((z:Int)/16+(z:Int))=((z/16+z:Nat):Int):=by omega
 have e2:(1085102592571150095:Int)=((1085102592571150095:Nat):Int):=rfl;have r:rep 15 8=1085102592571150095:=by decide+kernel
 rw [e1,lF _ (by omega),e2,u64_and_nat _ _ (by omega) (by omega)];unfold s3;rw [r]
theorem YN (x:Nat):s1 8 x≤12297829382473034410:=by
 have r:rep 85 8=6148914691236517205:=by decide+kernel
 have b1:x/2&&&rep 85 8≤rep 85 8:=Nat.and_le_right;have b2:x&&&rep 85 8≤rep 85 8:=Nat.and_le_right;unfold s1;omega
theorem YM (x:Nat):s2 8 x≤7378697629483820646:=by
 have r:rep 51 8=3689348814741910323:=by decide+kernel
 have b1:x/4&&&rep 51 8≤rep 51 8:=Nat.and_le_right;have b2:x&&&rep 51 8≤rep 51 8:=Nat.and_le_right;unfold s2;omega
theorem ZM (a:Nat) (h:qx a<18446744073709551616):IntKind.u64.wrap ((a:Int)+(a:Int)/256)=((qx a:Nat):Int):=by
 have e:((a:Int)+(a:Int)/256)=((qx a:Nat):Int):=by unfold qx;omega
 rw [e,lF _ h]
theorem ZL (a:Nat) (h:sJ a<18446744073709551616):IntKind.u64.wrap ((a:Int)+(a:Int)/65536)=((sJ a:Nat):Int):=by
 have e:((a:Int)+(a:Int)/65536)=((sJ a:Nat):Int):=by unfold sJ;omega
 rw [e,lF _ h]
theorem ZK (a:Nat) (h:vJ a<9223372036854775808):wrap64 (IntKind.u64.wrap ((a:Int)+(a:Int)/4294967296))=((vJ a:Nat):Int):=by
 have e:((a:Int)+(a:Int)/4294967296)=((vJ a:Nat):Int):=by unfold vJ;omega
 rw [e,lF _ (by omega)];unfold wrap64;omega
theorem XJ (a:Nat) (h:a<9223372036854775808):bits .and .i64 (a:Int) 127=((a%128:Nat):Int):=by
 have h1:(BitVec.ofInt 64 (a:Int)).toNat=a:=ofInt_u64 a (by omega);have h2:(BitVec.ofInt 64 (127:Int)).toNat=127:=ofInt_u64 127 (by omega);have h3:a&&&127=a%128:=Nat.and_two_pow_sub_one_eq_mod a 7;show IntKind.i64.wrap ((BitVec.ofInt 64 (a:Int)&&&BitVec.ofInt 64 (127:Int)).toNat:Int)=_;rw [BitVec.toNat_and,h1,h2,h3,IntKind.wrap_i64];omega
theorem Pz (x:Nat) (hx:x≤18446744073709551615) {X1 X2 X3 X4 X5 X6:Int}
 (h1:X1=IntKind.u64.wrap (bits .and .u64 ((x:Int)/2) 6148914691236517205+bits .and .u64 (x:Int) 6148914691236517205))
 (h2:X2=IntKind.u64.wrap (bits .and .u64 (X1/4) 3689348814741910323+bits .and .u64 X1 3689348814741910323))
 (h3:X3=bits .and .u64 (IntKind.u64.wrap (X2/16+X2)) 1085102592571150095)
 (h4:X4=IntKind.u64.wrap (X3+X3/256))
 (h5:X5=IntKind.u64.wrap (X4+X4/65536))
 (h6:X6=wrap64 (IntKind.u64.wrap (X5+X5/4294967296))):
 bits .and .i64 X6 127=((pop 64 x:Nat):Int):=by
 have l1:=YN x;have l2:=YM (s1 8 x);have f:=folds x;simp only at f;obtain ⟨g0,g1,g2,g3,g4⟩:=f;have sw:=YF 8 x;rw [Y3 x hx] at h1;subst h1;rw [Y2 _ (by omega)] at h2;subst h2;rw [Y1 _ (by omega),sw] at h3;subst h3;rw [ZM _ g1] at h4;subst h4;rw [ZL _ g2] at h5;subst h5;rw [ZK _ g3] at h6;subst h6;rw [XJ _ g3,g4]
end aR
theorem PD (x:Nat) (hx:x≤18446744073709551615) (w:World):
 Calls Tryz.prog 61 #[.int .u64 (x:Int)] w fun e w'=>e= .returned (.int .i64 (aR.pop 64 x:Nat))∧w=w':=by
 go_enter Tryz.func61,Tryz.ntmps61
 go_wp2;go_ret;exact ⟨Tv (aR.Pz x hx rfl rfl rfl rfl rfl rfl),rfl⟩
theorem xR (x:Int) (h0:0≤x) (hx:x≤18446744073709551615) (w:World):
 Calls Tryz.prog 25 #[.int .u64 x] w fun e w'=>e= .returned (.bool (aR.uy x.toNat))∧w=w':=by
 obtain ⟨n,rfl⟩:=Int.eq_ofNat_of_zero_le h0;rw [Int.toNat_natCast];have hh:=aR.Pk n (by omega);go_enter Tryz.func25,Tryz.ntmps25
 go_wp2_with (go_at_call 61;refine (PD _ (by omega) _).mono ?_;rintro e w' ⟨rfl,rfl⟩)
 go_ret;exact ⟨Ld (by rw [←hh,Bool.eq_iff_iff,beq_iff_eq,beq_iff_eq];omega),rfl⟩
end Go.Proofs.YtpibbcnkgdmcbaaGreatDoor
namespace Go.Proofs.YtpibbcnkgdmcbaaGreatDoor
open Go.RowKit
namespace aR
def NY (x a:Nat):Nat:=(x+a-1)/a*a
def KE (x a:Nat):Nat:=if uy a=true∧NY x a≤1099511627776 then NY x a else 0
def KF (x a:Nat):Nat:=if uy a=true then (if NY x a≤1099511627776 then 0 else 3) else 2
theorem Wq (x k:Nat):x≤NY x (2^k):=by
 have hp:0<2^k:=Nat.two_pow_pos k;unfold NY;have:=Nat.div_add_mod (x+2^k-1) (2^k);have:=Nat.mod_lt (x+2^k-1) hp;rw [Nat.mul_comm];omega
theorem Jc (y k:Nat) (hy:y≤18446744073709551615) (hk:k<64) {a:Nat} (ha:a=2^k):bits .andNot .u64 (y:Int) (((a:Nat):Int)-1)=((y/a*a:Nat):Int):=by
 subst ha;have hp0:0<2^k:=Nat.two_pow_pos k;have hp:2^k<18446744073709551616:=Nat.pow_lt_pow_of_lt (a:=2) (n:=k) (m:=64) (by decide) hk;have e:(((2^k:Nat):Int)-1)=((2^k-1:Nat):Int):=by omega
 rw [e,u64_andNot_nat _ _ (by omega) (by omega),Fw y k (by omega) hk]
end aR
theorem Kz (x:Int) (h0:0≤x) (h:x≤1099511627776) (w:World):
 Calls Tryz.prog 102 #[.int .u64 x] w fun e w'=>e= .returned (.tuple #[.int .u64 x, .int .i64 0])∧w=w':=by
 go_enter Tryz.func102,Tryz.ntmps102
 go_wp2
 go_ret2
 exact ⟨rfl,rfl⟩
theorem KA (x:Int) (h:1099511627776<x) (w:World):
 Calls Tryz.prog 102 #[.int .u64 x] w fun e w'=>e= .returned (.tuple #[.int .u64 0, .int .i64 3])∧w=w':=by
 go_enter Tryz.func102,Tryz.ntmps102
 go_wp2
 go_ret2
 exact ⟨rfl,rfl⟩
theorem YT {a k:Nat} (h:a=2^k) (hk:k<64):a≤9223372036854775808:=by
 subst h;show 2^k≤2^63;exact Nat.pow_le_pow_right (by decide) (by omega)
theorem NV (x a:Nat) (hx:x≤18446744073709551615) (ha:a≤18446744073709551615) (w:World):
 Calls Tryz.prog 63 #[.int .u64 x, .int .u64 a] w fun e w'=>e= .returned (.tuple #[.int .u64 (aR.KE x a:Nat), .int .i64 (aR.KF x a:Nat)])∧w=w':=by
 by_cases hp:aR.uy a=true
 · obtain ⟨k,hk,e⟩:=(aR.JX a (by omega)).1 hp
   have a1:1≤a:=by rw [e];exact Nat.two_pow_pos k
   have ge:=aR.Wq x k;rw [←e] at ge;have hap:a≤9223372036854775808:=YT e hk;have E:=Lib.hid e;clear e;have pq: ∀w,Calls Tryz.prog 25 #[.int .u64 a] w fun e w'=>e= .returned (.bool true)∧w=w':=fun w=>(xR a (by omega) (by omega) w).mono fun e w' ⟨h1,h2⟩=>⟨by rw [h1,Int.toNat_natCast,hp],h2⟩;by_cases hb:x≤1099511627776
   · have hand:=aR.Jc (x+a-1) k (by omega) hk E.out
     have ev:((x:Int)+(a:Int)-1)=((x+a-1:Nat):Int):=by omega
     rw [←ev] at hand;by_cases hr:aR.NY x a≤1099511627776
     · have f1:aR.KE x a=(x+a-1)/a*a:=by unfold aR.KE;rw [if_pos ⟨hp,hr⟩];rfl
       have f2:aR.KF x a=0:=by unfold aR.KF;rw [if_pos hp,if_pos hr]
       have F1:=Lib.hid f1;have F2:=Lib.hid f2;have HA:=Lib.hid hand;clear f1 f2 hand ev;have HR:(x+a-1)/a*a≤1099511627776:=hr;clear hp hr ge;go_enter Tryz.func63,Tryz.ntmps63
       go_wp2_with (go_at_call 25;refine (pq _).mono ?_;rintro e w' ⟨rfl,rfl⟩)
       rw [HA.out];refine (Kz _ (Int.natCast_nonneg _) (by omega) _).mono ?_;rintro e w' ⟨rfl,rfl⟩;go_wp2
       go_ret2
       exact ⟨by rw [F1.out,F2.out];rfl,rfl⟩
     · have f1:aR.KE x a=0:=by unfold aR.KE;rw [if_neg (fun h=>hr h.2)]
       have f2:aR.KF x a=3:=by unfold aR.KF;rw [if_pos hp,if_neg hr]
       have F1:=Lib.hid f1;have F2:=Lib.hid f2;have HA:=Lib.hid hand;clear f1 f2 hand ev;have HR:1099511627776<(x+a-1)/a*a:=Nat.lt_of_not_le hr;clear hp hr ge;go_enter Tryz.func63,Tryz.ntmps63
       go_wp2_with (go_at_call 25;refine (pq _).mono ?_;rintro e w' ⟨rfl,rfl⟩)
       rw [HA.out];refine (KA _ (by omega) _).mono ?_;rintro e w' ⟨rfl,rfl⟩;go_wp2
       go_ret2
       exact ⟨by rw [F1.out,F2.out];rfl,rfl⟩
   · have hr: ¬aR.NY x a≤1099511627776:=by omega
     have f1:aR.KE x a=0:=by unfold aR.KE;rw [if_neg (fun h=>hr h.2)]
     have f2:aR.KF x a=3:=by unfold aR.KF;rw [if_pos hp,if_neg hr]
     have F1:=Lib.hid f1;have F2:=Lib.hid f2;clear f1 f2;clear hp hr ge;go_enter Tryz.func63,Tryz.ntmps63
     go_wp2_with (go_at_call 25;refine (pq _).mono ?_;rintro e w' ⟨rfl,rfl⟩)
     go_ret2
     exact ⟨by rw [F1.out,F2.out];rfl,rfl⟩
 · have f1:aR.KE x a=0:=by unfold aR.KE;rw [if_neg (fun h=>hp h.1)]
   have f2:aR.KF x a=2:=by unfold aR.KF;rw [if_neg hp]
   have pq: ∀w,Calls Tryz.prog 25 #[.int .u64 a] w fun e w'=>e= .returned (.bool false)∧w=w':=fun w=>(xR a (by omega) (by omega) w).mono fun e w' ⟨h1,h2⟩=>⟨by rw [h1,Int.toNat_natCast,Bool.eq_false_iff.2 hp],h2⟩;have F1:=Lib.hid f1;have F2:=Lib.hid f2;clear f1 f2 hp;go_enter Tryz.func63,Tryz.ntmps63
   go_wp2_with (go_at_call 25;refine (pq _).mono ?_;rintro e w' ⟨rfl,rfl⟩)
   go_ret2
   exact ⟨by rw [F1.out,F2.out];rfl,rfl⟩
end Go.Proofs.YtpibbcnkgdmcbaaGreatDoor
namespace Go.Proofs.YtpibbcnkgdmcbaaGreatDoor
open Go.RowKit au
def plC (p:Pl):Array Value:= #[.int .i64 p.c, .int .i64 (p.sl:Int), .int .i64 (p.sg:Int), .int .u64 (p.us:Int)]
end Go.Proofs.YtpibbcnkgdmcbaaGreatDoor
namespace Go.Proofs.YtpibbcnkgdmcbaaGreatDoor
open Go.RowKit au
def Lay (w:World):Prop:= ∀j,j<12→w.cell? ⟨0,j,none⟩=some (.int .u64 ((aK j:Nat):Int))
theorem Lay.lt {w:World} (h:Lay w):0<w.heap.size:=World.block_lt_of_cell? w _ (h 0 (by decide))
theorem Lay.below {w w':World} (h:Lay w) (hb:Below w.heap.size w w'):Lay w':=fun j hj=>(hb.cell (p:=⟨0,j,none⟩) h.lt).trans (h j hj)
theorem rG {w:World} (L:Lay w) (c:Nat) (hc:c<12):Calls Tryz.prog 62 #[.int .i64 (c:Int)] w fun e w'=>e= .returned (.tuple #[.int .u64 ((aK c:Nat):Int), .int .i64 0])∧Below w.heap.size w w':=by
 have hcell:=L c hc;obtain ⟨s,hs⟩: ∃s,aK c=s:=⟨_,rfl⟩;rw [hs] at hcell⊢;have t1:decide ((c:Int)<0)=false:=decide_eq_false (by omega);have t2:decide ((12:Int)≤(c:Int))=false:=decide_eq_false (by omega);have p1:(0:Int)≤(c:Int):=by omega
 have p2:(c:Int)<12:=by omega
 clear hs;go_enter Tryz.func62,Tryz.ntmps62
 go_wp2
 go_ret2
 exact ⟨rfl,Below.refl _ _⟩
theorem Jr {w:World} (c:Int) (hc:c<0∨12≤c):Calls Tryz.prog 62 #[.int .i64 c] w fun e w'=>e= .returned (.tuple #[.int .u64 0, .int .i64 2])∧Below w.heap.size w w':=by
 have tc:(decide (c<0)=true)∨(decide (c<0)=false∧decide ((12:Int)≤c)=true):=by
  by_cases h:c<0
  · exact Or.inl (decide_eq_true h)
  · exact Or.inr ⟨decide_eq_false h,decide_eq_true (by omega)⟩
 clear hc;rcases tc with tc|⟨tc,td⟩
 all_goals
  go_enter Tryz.func62,Tryz.ntmps62
  go_wp2
  go_ret2
  exact ⟨rfl,Below.refl _ _⟩
theorem lI {w:World} (L:Lay w) (c:Nat) (hc:c<12):Calls Tryz.prog 27 #[.int .i64 (c:Int)] w fun e w'=>e= .returned (.tuple #[.int .i64 ((aM c:Nat):Int), .int .i64 0])∧Below w.heap.size w w':=by
 have H:=Lib.hid (rG L c hc);obtain ⟨b1,b2⟩:=iK hc;have hs:aM c=if aK c≤256 then 1 else if aK c≤512 then 2 else 4:=rfl
 obtain ⟨s,hss⟩: ∃s,aK c=s:=⟨_,rfl⟩;rw [hss] at hs b1 b2 H;obtain ⟨m,hm⟩: ∃m,aM c=m:=⟨_,rfl⟩;rw [hm] at hs⊢;clear hss hm;have hcase:(decide ((s:Int)≤256)=true∧m=1)∨(decide ((s:Int)≤256)=false∧decide ((s:Int)≤512)=true∧m=2)∨(decide ((s:Int)≤256)=false∧decide ((s:Int)≤512)=false∧m=4):=by
  by_cases h1:s≤256
  · exact Or.inl ⟨decide_eq_true (by omega),by rw [hs,if_pos h1]⟩
  · by_cases h2:s≤512
    · exact Or.inr (Or.inl ⟨decide_eq_false (by omega),decide_eq_true (by omega),by rw [hs,if_neg h1,if_pos h2]⟩)
    · exact Or.inr (Or.inr ⟨decide_eq_false (by omega),decide_eq_false (by omega),by rw [hs,if_neg h1,if_neg h2]⟩)
 clear hs;rcases hcase with ⟨t1,rfl⟩|⟨t1,t2,rfl⟩|⟨t1,t2,rfl⟩
 all_goals
  go_enter Tryz.func27,Tryz.ntmps27
  go_wp2_with fail
  refine H.out.mono ?_;rintro e w1 ⟨rfl,hb⟩;have B:=Lib.hid hb;clear hb;go_wp2
  go_ret2
  exact ⟨rfl,B.out⟩
theorem KW {w:World} (c:Int) (hc:c<0∨12≤c):Calls Tryz.prog 27 #[.int .i64 c] w fun e w'=>e= .returned (.tuple #[.int .i64 0, .int .i64 2])∧Below w.heap.size w w':=by
 have H:=Lib.hid (Jr (w:=w) c hc);clear hc;go_enter Tryz.func27,Tryz.ntmps27
 go_wp2_with fail
 refine H.out.mono ?_;rintro e w1 ⟨rfl,hb⟩;have B:=Lib.hid hb;clear hb;go_wp2
 go_ret2
 exact ⟨rfl,B.out⟩
theorem uS {w:World} (L:Lay w) (c:Nat) (hc:c<12):Calls Tryz.prog 177 #[.int .i64 (c:Int)] w fun e w'=>e= .returned (.tuple #[.int .i64 ((bE c:Nat):Int), .int .i64 0])∧Below w.heap.size w w':=by
 have H:=Lib.hid (lI L c hc);have hL:=Lib.hid L;obtain ⟨b1,b2⟩:=iK hc;obtain ⟨m1,m2⟩:=kZ hc;have hdiv:Int.tdiv (((aM c:Nat):Int)*1024) ((aK c:Nat):Int)=((bE c:Nat):Int):=by
  unfold bE;rw [show ((aM c:Nat):Int)*1024=((1024*aM c:Nat):Int) by omega];exact (Int.ofNat_tdiv _ _).symm
 have Qq:(((aM c:Nat):Int)*1024)/((aK c:Nat):Int)=((bE c:Nat):Int):=by
  unfold bE;rw [show ((aM c:Nat):Int)*1024=((1024*aM c:Nat):Int) by omega];exact (Int.natCast_ediv _ _).symm
 have kb:bE c≤64:=(I6 hc).2.1;have hcl: ∀w',Below w.heap.size w w'→w'.cell? ⟨0,c,none⟩=some (.int .u64 ((aK c:Nat):Int)):=fun w' hb=>hL.out.below hb c hc;obtain ⟨s,hss⟩: ∃s,aK c=s:=⟨_,rfl⟩;obtain ⟨m,hm⟩: ∃m,aM c=m:=⟨_,rfl⟩;obtain ⟨B,hB⟩: ∃B,bE c=B:=⟨_,rfl⟩;rw [hss] at b1 b2 hdiv Qq hcl;rw [hm] at m1 m2 hdiv Qq H;rw [hB] at hdiv Qq kb⊢;have HCL:=Lib.hid hcl;have w1':IntKind.i64.wrap (s:Int)=(s:Int):=IntWalk.i64_in _ ⟨by omega,by omega⟩;have w2':IntKind.i64.wrap ((m:Int)*1024)=(m:Int)*1024:=IntWalk.i64_in _ ⟨by omega,by omega⟩;have z1:((s:Int)==0)=false:=by rw [beq_eq_false_iff_ne];omega
 have p1:(0:Int)≤(c:Int):=by omega
 have p2:(c:Int)<12:=by omega
 clear hcl hss hm hB;go_enter Tryz.func177,Tryz.ntmps177
 go_wp2_with fail
 refine H.out.mono ?_;rintro e w1 ⟨rfl,hb⟩;have B:=Lib.hid hb;have hcell:=HCL.out _ hb;clear hb;go_wp2
 go_ret2
 exact ⟨rfl,B.out⟩
end Go.Proofs.YtpibbcnkgdmcbaaGreatDoor
namespace Go.Proofs.YtpibbcnkgdmcbaaGreatDoor
open Go.RowKit au
theorem Ws (c:Nat) (hc:c<12) (w:World):(Instr.index 82 (.agg #[.int .u64 16, .int .u64 32, .int .u64 48, .int .u64 64, .int .u64 96, .int .u64 128, .int .u64 192, .int .u64 256, .int .u64 384, .int .u64 512, .int .u64 768, .int .u64 1024]) (.int .i64 (c:Int))).run Tryz.prog w= .ok (.int .u64 ((aK c:Nat):Int)) w:=by
 rcases c with _|_|_|_|_|_|_|_|_|_|_|_|c
 all_goals first|omega|kernel_rfl
theorem KM {w:World} (L:Lay w):w.cell? ⟨0,0,none⟩=some (.int .u64 16)∧w.cell? ⟨0,1,none⟩=some (.int .u64 32)∧w.cell? ⟨0,2,none⟩=some (.int .u64 48)∧w.cell? ⟨0,3,none⟩=some (.int .u64 64)∧w.cell? ⟨0,4,none⟩=some (.int .u64 96)∧w.cell? ⟨0,5,none⟩=some (.int .u64 128)∧
 w.cell? ⟨0,6,none⟩=some (.int .u64 192)∧w.cell? ⟨0,7,none⟩=some (.int .u64 256)∧w.cell? ⟨0,8,none⟩=some (.int .u64 384)∧w.cell? ⟨0,9,none⟩=some (.int .u64 512)∧w.cell? ⟨0,10,none⟩=some (.int .u64 768)∧w.cell? ⟨0,11,none⟩=some (.int .u64 1024):=
 ⟨L 0 (by decide),L 1 (by decide),L 2 (by decide),L 3 (by decide),L 4 (by decide),L 5 (by decide),L 6 (by decide),L 7 (by decide),L 8 (by decide),L 9 (by decide),L 10 (by decide),L 11 (by decide)⟩
theorem MC {w:World} (L:Lay w) (n a:Nat) (hn:n≤18446744073709551615) (ha:1≤a) (ha2:a≤18446744073709551615):Calls Tryz.prog 26 #[.int .u64 (n:Int), .int .u64 (a:Int)] w fun e w'=>e= .returned (.tuple #[.int .i64 ((ofC (oU n a):Nat):Int), .bool (oU n a).isSome])∧Below w.heap.size w w':=by
 obtain ⟨d0,d1,d2,d3,d4,d5,d6,d7,d8,d9,d10,d11⟩:=KM L;have HIX:=Lib.hid Ws;obtain ⟨k,hk⟩: ∃k,ofC (oU n a)=k:=⟨_,rfl⟩;obtain ⟨y,hy⟩: ∃y,(oU n a).isSome=y:=⟨_,rfl⟩;have HK:=Lib.hid hk;have HY:=Lib.hid hy;have z0:((a:Int)==0)=false:=by rw [beq_eq_false_iff_ne];omega
 have z1: ¬a=0:=by omega
 rw [hk,hy];clear hk hy;go_enter Tryz.func26,Tryz.ntmps26
 go_wp2;clear d0 d1 d2 d3 d4 d5 d6 d7 d8 d9 d10 d11
 go_loop [9] (fun i=> ∃c:Nat,c≤12∧i= .int .i64 (c:Int)∧ ∀d,d<c→decide (n≤aK d∧aK d%a=0)=false) (fun i=>12-(intOf i).toNat)
 case atStart=>exact ⟨0,by omega,rfl,fun d hd=>by omega⟩
 case round=>
  obtain ⟨c,hc,rfl,hno⟩:=hrel;have NO:=Lib.hid hno;clear hno;by_cases hlt:c<12
  · have hcell:=HIX.out c hlt
    have t0:decide ((c:Int)<12)=true:=decide_eq_true (by omega);have p1:(0:Int)≤(c:Int):=by omega
    have p2:(c:Int)<12:=by omega
    obtain ⟨b1,b2⟩:=iK hlt;obtain ⟨s,hss⟩: ∃s,aK c=s:=⟨_,rfl⟩;have HSS:=Lib.hid hss;rw [hss] at hcell b1 b2;clear hss;obtain ⟨r,hr⟩: ∃r,s%a=r:=⟨_,rfl⟩;have m3:Int.tmod (s:Int) (a:Int)=(r:Int):=by rw [←hr];exact (Int.ofNat_tmod _ _).symm
    have HR:=Lib.hid hr;clear hr;have hcase:(decide (n≤s)=true∧((r:Int)==0)=true∧(n≤s∧r=0))∨(decide (n≤s)=true∧((r:Int)==0)=false∧ ¬(n≤s∧r=0))∨(decide (n≤s)=false∧((r:Int)==0)=false∧ ¬(n≤s∧r=0))∨(decide (n≤s)=false∧((r:Int)==0)=true∧ ¬(n≤s∧r=0)):=by
     by_cases h1:n≤s
     · by_cases h2:r=0
       · exact Or.inl ⟨decide_eq_true h1,by rw [h2];rfl,h1,h2⟩
       · exact Or.inr (Or.inl ⟨decide_eq_true h1,by rw [beq_eq_false_iff_ne];omega,fun h=>h2 h.2⟩)
     · by_cases h2:r=0
       · exact Or.inr (Or.inr (Or.inr ⟨decide_eq_false h1,by rw [h2];rfl,fun h=>h1 h.1⟩))
       · exact Or.inr (Or.inr (Or.inl ⟨decide_eq_false h1,by rw [beq_eq_false_iff_ne];omega,fun h=>h1 h.1⟩))
    have hyes:n≤s∧r=0→oU n a=some c:=fun h=>uL hlt (by rw [HSS.out];exact decide_eq_true ⟨h.1,by rw [HR.out];exact h.2⟩) NO.out;have hnot: ¬(n≤s∧r=0)→ ∀d,d<c+1→decide (n≤aK d∧aK d%a=0)=false:=fun h d hd=>by
     rcases Nat.lt_or_ge d c with h'|h'
     · exact NO.out d h'
     · obtain rfl:d=c:=by omega
       rw [HSS.out,HR.out];exact decide_eq_false h
    have ab9:=Lib.hid hyes;have acj:=Lib.hid hnot;clear hyes hnot;rcases hcase with ⟨t1,t2,hh⟩|hcase
    · have hof:=ab9.out hh
      have e1:=HK.out;have e2:=HY.out;rw [hof] at e1 e2;obtain rfl:c=k:=e1;obtain rfl:true=y:=e2;clear hof hh;go_wp2
      go_ret2
      exact ⟨rfl,Below.refl _ _⟩
    · rcases hcase with ⟨t1,t2,hh⟩|⟨t1,t2,hh⟩|⟨t1,t2,hh⟩
      all_goals
       have HN:=Lib.hid (acj.out hh);clear hh;go_wp2
       go_round
       case rel=>exact ⟨c+1,by omega,by go_num,HN.out⟩
       case measure=>simp [intOf];omega
  · obtain rfl:c=12:=by omega
    have t0:decide (((12:Nat):Int)<12)=false:=by decide
    have hof:oU n a=none:=uM NO.out;have e1:=HK.out;have e2:=HY.out;rw [hof] at e1 e2;obtain rfl:0=k:=e1;obtain rfl:false=y:=e2;clear hof;go_wp2
    go_ret2
    exact ⟨rfl,Below.refl _ _⟩
end Go.Proofs.YtpibbcnkgdmcbaaGreatDoor
namespace Go.Proofs.YtpibbcnkgdmcbaaGreatDoor
open Go.RowKit au
def adJ (a i:Nat):Bool:=(List.range i).any fun j=>decide (2^j=a)
theorem EA {a:Nat} (h:iQ a=true):1≤a∧a≤1024:=by
 unfold iQ at h;simp at h;omega
def Lu (p:Pl):Value:= .agg #[.int .i64 p.c, .int .i64 (p.sl:Int), .int .i64 (p.sg:Int), .int .u64 (p.us:Int)]
theorem TG {w:World} {g:Nat} {t:TypeId} {a b c d:Value} (h:aV w g t #[a,b,c,d]) (v0 v1 v2 v3:Value):aV ((((w.setCell ⟨g,0,none⟩ v0).setCell ⟨g,1,none⟩ v1).setCell ⟨g,2,none⟩ v2).setCell ⟨g,3,none⟩ v3) g t #[v0,v1,v2,v3]:=by
 have:=(((h.put 0 v0).put 1 v1).put 2 v2).put 3 v3
 simpa using this
theorem Cz {w w1:World} (h:Below w.heap.size w w1) (v0 v1 v2 v3:Value) {g:Nat} (hg:w.heap.size≤g):Below w.heap.size w ((((w1.setCell ⟨g,0,none⟩ v0).setCell ⟨g,1,none⟩ v1).setCell ⟨g,2,none⟩ v2).setCell ⟨g,3,none⟩ v3):=
 (((h.setCell (p:=⟨g,0,none⟩) hg v0).setCell (p:=⟨g,1,none⟩) hg v1).setCell (p:=⟨g,2,none⟩) hg v2).setCell (p:=⟨g,3,none⟩) hg v3
end Go.Proofs.YtpibbcnkgdmcbaaGreatDoor
namespace Go.Proofs.YtpibbcnkgdmcbaaGreatDoor
open Go.RowKit au
theorem VW (a:Nat):iQ a=(aR.uy a&&decide (a≤1024)):=by
 rw [Bool.eq_iff_iff,Bool.and_eq_true,decide_eq_true_iff,aR.Ey];constructor
 · intro h
   refine ⟨?_,(EA h).2⟩;rcases zq h with rfl|rfl|rfl|rfl|rfl|rfl|rfl|rfl|rfl|rfl|rfl
   · exact ⟨0,rfl⟩
   · exact ⟨1,rfl⟩
   · exact ⟨2,rfl⟩
   · exact ⟨3,rfl⟩
   · exact ⟨4,rfl⟩
   · exact ⟨5,rfl⟩
   · exact ⟨6,rfl⟩
   · exact ⟨7,rfl⟩
   · exact ⟨8,rfl⟩
   · exact ⟨9,rfl⟩
   · exact ⟨10,rfl⟩
 · rintro ⟨⟨k,rfl⟩,h⟩
   refine XL ?_;rcases Nat.lt_or_ge 10 k with x|x
   · have:=Nat.pow_le_pow_right (show 0<2 by decide) x
     omega
   · exact x
theorem Sn (n:Nat) (hn:n≤1048576) (w:World):Calls Tryz.prog 28 #[.int .u64 (n:Int), .int .u64 1024] w fun e w'=>e= .returned (.tuple #[.int .i64 ((up n 1024:Nat):Int), .int .u64 ((up n 1024*1024:Nat):Int)])∧w=w':=by
 have H:=NV n 1024 (by omega) (by decide) w;have hv:aR.KE n 1024=up n 1024*1024:=by
  unfold aR.KE aR.NY up;rw [if_pos ⟨by decide+kernel,by omega⟩]
 have he:aR.KF n 1024=0:=by
  unfold aR.KF aR.NY;rw [if_pos (by decide+kernel),if_pos (by omega)]
 rw [hv,he] at H;have hk:up n 1024≤1025:=by unfold up;omega
 obtain ⟨k,hkk⟩: ∃k,up n 1024=k:=⟨_,rfl⟩;obtain ⟨m,hm⟩: ∃m,k*1024=m:=⟨_,rfl⟩;rw [hkk,hm] at H;rw [hkk,hm];rw [hkk] at hk;have hmb:m≤1049600:=by omega
 have q1:Int.tdiv (m:Int) 1024=(k:Int):=by
  rw [show (1024:Int)=((1024:Nat):Int) from rfl,←Int.ofNat_tdiv,←hm,Nat.mul_div_cancel _ (by decide)]
 have q2:(m:Int)/1024=(k:Int):=by omega
 have w1:IntKind.i64.wrap (k:Int)=(k:Int):=IntWalk.i64_in _ ⟨by omega,by omega⟩;have HH:=Lib.hid H;clear H hv he hkk hm;go_enter Tryz.func28,Tryz.ntmps28
 go_wp2_with fail
 refine HH.out.mono ?_;rintro e w1 ⟨rfl,rfl⟩;go_wp2
 go_ret2
 exact ⟨rfl,rfl⟩
theorem Sm (n:Nat) (hn:n≤1048576) (w:World):Calls Tryz.prog 28 #[.int .u64 (n:Int), .int .u64 16384] w fun e w'=>e= .returned (.tuple #[.int .i64 ((up n 16384:Nat):Int), .int .u64 ((up n 16384*16384:Nat):Int)])∧w=w':=by
 have H:=NV n 16384 (by omega) (by decide) w;have hv:aR.KE n 16384=up n 16384*16384:=by
  unfold aR.KE aR.NY up;rw [if_pos ⟨by decide+kernel,by omega⟩]
 have he:aR.KF n 16384=0:=by
  unfold aR.KF aR.NY;rw [if_pos (by decide+kernel),if_pos (by omega)]
 rw [hv,he] at H;have hk:up n 16384≤1025:=by unfold up;omega
 obtain ⟨k,hkk⟩: ∃k,up n 16384=k:=⟨_,rfl⟩;obtain ⟨m,hm⟩: ∃m,k*16384=m:=⟨_,rfl⟩;rw [hkk,hm] at H;rw [hkk,hm];rw [hkk] at hk;have hmb:m≤16793600:=by omega
 have q1:Int.tdiv (m:Int) 16384=(k:Int):=by
  rw [show (16384:Int)=((16384:Nat):Int) from rfl,←Int.ofNat_tdiv,←hm,Nat.mul_div_cancel _ (by decide)]
 have q2:(m:Int)/16384=(k:Int):=by omega
 have w1:IntKind.i64.wrap (k:Int)=(k:Int):=IntWalk.i64_in _ ⟨by omega,by omega⟩;have HH:=Lib.hid H;clear H hv he hkk hm;go_enter Tryz.func28,Tryz.ntmps28
 go_wp2_with fail
 refine HH.out.mono ?_;rintro e w1 ⟨rfl,rfl⟩;go_wp2
 go_ret2
 exact ⟨rfl,rfl⟩
theorem JG (a:Nat) (ha:a≤18446744073709551615) (w:World):Calls Tryz.prog 25 #[.int .u64 (a:Int)] w fun e w'=>e= .returned (.bool (aR.uy a))∧w=w':=
 (xR (a:Int) (by omega) (by omega) w).mono fun e w' ⟨h1,h2⟩=>⟨by rw [h1,Int.toNat_natCast],h2⟩
theorem UC {w:World} (n a:Nat) (hn:n≤18446744073709551615) (ha:a≤18446744073709551615) (hb: ¬(iQ a=true∧n≤1048576)):
 Calls Tryz.prog 9 #[.int .u64 (n:Int), .int .u64 (a:Int)] w fun e w'=>e= .returned (.tuple #[Lu Pl.none, .int .i64 2])∧Below w.heap.size w w':=by
 have pq:=JG a ha;rw [VW] at hb;obtain ⟨b,hbb⟩: ∃b,aR.uy a=b:=⟨_,rfl⟩;rw [hbb] at hb pq;have HP:=Lib.hid pq;have hcase:(b=false)∨(b=true∧decide ((1024:Int)<(a:Int))=true)∨(b=true∧decide ((1024:Int)<(a:Int))=false∧decide ((1048576:Int)<(n:Int))=true):=by
  cases b
  · exact Or.inl rfl
  · by_cases h1:1024<a
    · exact Or.inr (Or.inl ⟨rfl,decide_eq_true (by omega)⟩)
    · refine Or.inr (Or.inr ⟨rfl,decide_eq_false (by omega),decide_eq_true ?_⟩)
      rcases Nat.lt_or_ge 1048576 n with x|x
      · omega
      · exact absurd ⟨by simp;omega,x⟩ hb
 clear hb pq hbb;rcases hcase with rfl|⟨rfl,t1⟩|⟨rfl,t1,t2⟩
 all_goals
  go_enter Tryz.func9,Tryz.ntmps9
  go_wp2_with fail
  refine (HP.out _).mono ?_;rintro e w1 ⟨rfl,hw⟩;have K:Hid (aV w1 w.heap.size 38 #[.int .i64 0, .int .i64 0, .int .i64 0, .int .u64 0]):=by rw [←hw];exact Lib.hid (aV.new _ _ _)
  have B:=Lib.hid (show Below w.heap.size w w1 by rw [←hw];exact (Below.refl _ w).alloc (Nat.le_refl _) _);clear hw;have f0':=K.out.frozen 0;have f1':=K.out.frozen 1;have f2':=K.out.frozen 2;have f3':=K.out.frozen 3;have x0:w1.cell? ⟨w.heap.size,0,none⟩=some (.int .i64 0):=K.out.cell 0;have x1:w1.cell? ⟨w.heap.size,1,none⟩=some (.int .i64 0):=K.out.cell 1;have x2:w1.cell? ⟨w.heap.size,2,none⟩=some (.int .i64 0):=K.out.cell 2;have x3:w1.cell? ⟨w.heap.size,3,none⟩=some (.int .u64 0):=K.out.cell 3;go_wp2;have KB:=TG K.out (.int .i64 0) (.int .i64 0) (.int .i64 0) (.int .u64 0);have y0:=KB.cell 0;have y1:=KB.cell 1;have y2:=KB.cell 2;have y3:=KB.cell 3;refine bodyPost_ret (v:= .tuple #[Lu Pl.none, .int .i64 2]) ?_ rfl ⟨rfl,Cz B.out _ _ _ _ (Nat.le_refl _)⟩;simp [results,Tryz.results9,go_sem,y0,y1,y2,y3,Lu,Pl.none]
end Go.Proofs.YtpibbcnkgdmcbaaGreatDoor
namespace Go.Proofs.YtpibbcnkgdmcbaaGreatDoor
open Go.RowKit au
theorem Xu {n a c:Nat} (h:oU n a=some c):c<12:=(jH h).1
theorem QE {w:World} (L:Lay w) (n a:Nat) (hal:iQ a=true) (hn:n≤1048576):
 Calls Tryz.prog 9 #[.int .u64 (n:Int), .int .u64 (a:Int)] w fun e w'=>e= .returned (.tuple #[Lu (dV n a).1, .int .i64 0])∧Below w.heap.size w w':=by
 obtain ⟨ha1,ha2⟩:=EA hal;have pq:=JG a (by omega);have hb:=VW a;rw [hal] at hb;have hp2:aR.uy a=true:=by
  cases h:aR.uy a
  · rw [h] at hb;cases hb
  · rfl
 rw [hp2] at pq;obtain ⟨k,hk⟩: ∃k,max n 1=k:=⟨_,rfl⟩;have hk1:1≤k:=by omega
 have hk2:k≤1048576:=by omega
 have hmax: ∀w,(Builtin.max_ #[22,22] 22 #[.int .u64 (n:Int), .int .u64 1]).run Tryz.prog w= .ok (.int .u64 (k:Int)) w:=fun w=>by
  rw [run_max_int2];have:(if (1:Int)>(n:Int) then (1:Int) else (n:Int))=(k:Int):=by split<;>omega
  rw [this]
 have HP:=Lib.hid pq;have HL:=Lib.hid L;have HF:=Lib.hid (fun w' (h:Below w.heap.size w w')=>MC (L.below h) k a (by omega) ha1 (by omega));have Zv:(dV n a).1=match oU k a with
  |some c=>⟨(c:Int),aM c,0,aK c⟩
  | .none=>if k≤15360 then ⟨-1,up k 1024,0,up k 1024*1024⟩ else ⟨-1,0,up k 16384,up k 16384*16384⟩:=by
  unfold dV;rw [if_pos ⟨hal,hn⟩,hk];cases oU k a with
  |some c=>rfl
  |none=>simp only [];split<;>rfl
 have t1:decide ((1024:Int)<(a:Int))=false:=decide_eq_false (by omega);have t2:decide ((1048576:Int)<(n:Int))=false:=decide_eq_false (by omega);have hU:=Lib.hid (Sn k hk2);have hV:=Lib.hid (Sm k hk2);rw [Zv];clear Zv pq hb hp2 hk hal;cases hfit:oU k a with
 |some c=>
  have hc:=Xu hfit;rw [hfit] at HF;replace HF:Hid (∀w',Below w.heap.size w w'→Calls Tryz.prog 26 #[.int .u64 (k:Int), .int .u64 (a:Int)] w' fun e w''=>e= .returned (.tuple #[.int .i64 (c:Int), .bool true])∧Below w'.heap.size w' w''):=HF;have HS:=Lib.hid (fun w' (h:Below w.heap.size w w')=>lI (L.below h) c hc);have HC:=Lib.hid (fun w' (h:Below w.heap.size w w')=>L.below h c hc);obtain ⟨sz,hs⟩: ∃x,aK c=x:=⟨_,rfl⟩;obtain ⟨sl,hl⟩: ∃x,aM c=x:=⟨_,rfl⟩;rw [hs] at HC;rw [hl] at HS;simp only [hs,hl];have p1:(0:Int)≤(c:Int):=by omega
  have p2:(c:Int)<12:=by omega
  clear hs hl hfit L;go_enter Tryz.func9,Tryz.ntmps9
  go_wp2_with fail
  refine (HP.out _).mono ?_;rintro e w1 ⟨rfl,hw⟩;have K1:Hid (aV w1 w.heap.size 38 #[.int .i64 0, .int .i64 0, .int .i64 0, .int .u64 0]):=by rw [←hw];exact Lib.hid (aV.new _ _ _)
  have B1:=Lib.hid (show Below w.heap.size w w1 by rw [←hw];exact (Below.refl _ w).alloc (Nat.le_refl _) _);have s1:=B1.out.size;clear hw;go_wp2_with fail
  refine (HF.out _ B1.out).mono ?_;rintro e w2 ⟨rfl,hb⟩;have B2:=Lib.hid (B1.out.trans (hb.mono s1));have K2:=Lib.hid (K1.out.grew hb);have s2:=B2.out.size;clear hb;go_wp2_with fail
  refine (HS.out _ B2.out).mono ?_;rintro e w3 ⟨rfl,hb⟩;have B3:=Lib.hid (B2.out.trans (hb.mono s2));have K3:=Lib.hid (K2.out.grew hb);clear hb;have hcell:=HC.out _ B3.out;have f0':=K3.out.frozen 0;have f1':=K3.out.frozen 1;have f2':=K3.out.frozen 2;have f3':=K3.out.frozen 3;have x0:w3.cell? ⟨w.heap.size,0,none⟩=some (.int .i64 0):=K3.out.cell 0;have x1:w3.cell? ⟨w.heap.size,1,none⟩=some (.int .i64 0):=K3.out.cell 1;have x2:w3.cell? ⟨w.heap.size,2,none⟩=some (.int .i64 0):=K3.out.cell 2;have x3:w3.cell? ⟨w.heap.size,3,none⟩=some (.int .u64 0):=K3.out.cell 3;go_wp2;have KB:=TG K3.out (.int .i64 (c:Int)) (.int .i64 (sl:Int)) (.int .i64 0) (.int .u64 (sz:Int));have y0:=KB.cell 0;have y1:=KB.cell 1;have y2:=KB.cell 2;have y3:=KB.cell 3;refine bodyPost_ret (v:= .tuple #[Lu ⟨(c:Int),sl,0,sz⟩, .int .i64 0]) ?_ rfl ⟨rfl,Cz B3.out _ _ _ _ (Nat.le_refl _)⟩;simp [results,Tryz.results9,go_sem,y0,y1,y2,y3,Lu]
 |none=>
  rw [hfit] at HF;replace HF:Hid (∀w',Below w.heap.size w w'→Calls Tryz.prog 26 #[.int .u64 (k:Int), .int .u64 (a:Int)] w' fun e w''=>e= .returned (.tuple #[.int .i64 0, .bool false])∧Below w'.heap.size w' w''):=HF;by_cases Xq:k≤15360
  · have t3:decide ((k:Int)≤15360)=true:=decide_eq_true (by omega)
    simp only [if_pos Xq];obtain ⟨u,hu⟩: ∃x,up k 1024=x:=⟨_,rfl⟩;rw [hu] at hU⊢;obtain ⟨m,hm⟩: ∃x,u*1024=x:=⟨_,rfl⟩;rw [hm] at hU⊢;clear hfit hu hm L;go_enter Tryz.func9,Tryz.ntmps9
    go_wp2_with fail
    refine (HP.out _).mono ?_;rintro e w1 ⟨rfl,hw⟩;have K1:Hid (aV w1 w.heap.size 38 #[.int .i64 0, .int .i64 0, .int .i64 0, .int .u64 0]):=by rw [←hw];exact Lib.hid (aV.new _ _ _)
    have B1:=Lib.hid (show Below w.heap.size w w1 by rw [←hw];exact (Below.refl _ w).alloc (Nat.le_refl _) _);have s1:=B1.out.size;clear hw;go_wp2_with fail
    refine (HF.out _ B1.out).mono ?_;rintro e w2 ⟨rfl,hb⟩;have B2:=Lib.hid (B1.out.trans (hb.mono s1));have K2:=Lib.hid (K1.out.grew hb);have s2:=B2.out.size;clear hb;go_wp2_with fail
    refine (hU.out _).mono ?_;rintro e w3 ⟨rfl,rfl⟩;have f0':=K2.out.frozen 0;have f1':=K2.out.frozen 1;have f2':=K2.out.frozen 2;have f3':=K2.out.frozen 3;have x0:w2.cell? ⟨w.heap.size,0,none⟩=some (.int .i64 0):=K2.out.cell 0;have x1:w2.cell? ⟨w.heap.size,1,none⟩=some (.int .i64 0):=K2.out.cell 1;have x2:w2.cell? ⟨w.heap.size,2,none⟩=some (.int .i64 0):=K2.out.cell 2;have x3:w2.cell? ⟨w.heap.size,3,none⟩=some (.int .u64 0):=K2.out.cell 3;go_wp2;have KB:=TG K2.out (.int .i64 (-1)) (.int .i64 (u:Int)) (.int .i64 0) (.int .u64 (m:Int));have y0:=KB.cell 0;have y1:=KB.cell 1;have y2:=KB.cell 2;have y3:=KB.cell 3;refine bodyPost_ret (v:= .tuple #[Lu ⟨-1,u,0,m⟩, .int .i64 0]) ?_ rfl ⟨rfl,Cz B2.out _ _ _ _ (Nat.le_refl _)⟩;simp [results,Tryz.results9,go_sem,y0,y1,y2,y3,Lu]
  · have t3:decide ((k:Int)≤15360)=false:=decide_eq_false (by omega)
    simp only [if_neg Xq];obtain ⟨u,hu⟩: ∃x,up k 16384=x:=⟨_,rfl⟩;rw [hu] at hV⊢;obtain ⟨m,hm⟩: ∃x,u*16384=x:=⟨_,rfl⟩;rw [hm] at hV⊢;clear hfit hu hm L;go_enter Tryz.func9,Tryz.ntmps9
    go_wp2_with fail
    refine (HP.out _).mono ?_;rintro e w1 ⟨rfl,hw⟩;have K1:Hid (aV w1 w.heap.size 38 #[.int .i64 0, .int .i64 0, .int .i64 0, .int .u64 0]):=by rw [←hw];exact Lib.hid (aV.new _ _ _)
    have B1:=Lib.hid (show Below w.heap.size w w1 by rw [←hw];exact (Below.refl _ w).alloc (Nat.le_refl _) _);have s1:=B1.out.size;clear hw;go_wp2_with fail
    refine (HF.out _ B1.out).mono ?_;rintro e w2 ⟨rfl,hb⟩;have B2:=Lib.hid (B1.out.trans (hb.mono s1));have K2:=Lib.hid (K1.out.grew hb);have s2:=B2.out.size;clear hb;go_wp2_with fail
    refine (hV.out _).mono ?_;rintro e w3 ⟨rfl,rfl⟩;have f0':=K2.out.frozen 0;have f1':=K2.out.frozen 1;have f2':=K2.out.frozen 2;have f3':=K2.out.frozen 3;have x0:w2.cell? ⟨w.heap.size,0,none⟩=some (.int .i64 0):=K2.out.cell 0;have x1:w2.cell? ⟨w.heap.size,1,none⟩=some (.int .i64 0):=K2.out.cell 1;have x2:w2.cell? ⟨w.heap.size,2,none⟩=some (.int .i64 0):=K2.out.cell 2;have x3:w2.cell? ⟨w.heap.size,3,none⟩=some (.int .u64 0):=K2.out.cell 3;go_wp2;have KB:=TG K2.out (.int .i64 (-1)) (.int .i64 0) (.int .i64 (u:Int)) (.int .u64 (m:Int));have y0:=KB.cell 0;have y1:=KB.cell 1;have y2:=KB.cell 2;have y3:=KB.cell 3;refine bodyPost_ret (v:= .tuple #[Lu ⟨-1,0,u,m⟩, .int .i64 0]) ?_ rfl ⟨rfl,Cz B2.out _ _ _ _ (Nat.le_refl _)⟩;simp [results,Tryz.results9,go_sem,y0,y1,y2,y3,Lu]
end Go.Proofs.YtpibbcnkgdmcbaaGreatDoor
