/- Geos12: texts of layers below, joined (GeoMath GeoCl RunMath GeoA GeoB). -/
import Derived.Test.YtpibbcnkgdmcbaaGreatDoorElems
import Derived.Test.YtpibbcnkgdmcbaaGreatDoorSmalls12
set_option linter.unusedVariables false
set_option maxHeartbeats 1000000
namespace Go.Proofs.YtpibbcnkgdmcbaaGreatDoor.aG
structure Plc where
 g:Int
 l:Int
 o:Nat
def XI (a:Nat):Plc:=if a<1048576 then ⟨((a/16384:Nat):Int),((a%16384/1024:Nat):Int),a%1024⟩ else ⟨0,0,0⟩
def ZY (a:Nat):Int:=if a<1048576 then 0 else 3
def yC (g l:Int) (o:Nat):Bool:=decide (0≤g)&&decide (g≤63)&&decide (0≤l)&&decide (l≤15)&&decide (o≤1023)
def FE (g l:Int) (o:Nat):Nat:=if yC g l o=true then g.toNat*16384+l.toNat*1024+o else 0
def FH (g l:Int) (o:Nat):Int:=if yC g l o=true then 0 else 3
theorem uw {g l:Int} {o:Nat}:yC g l o=true↔(0≤g∧g≤63∧0≤l∧l≤15∧o≤1023):=by
 unfold yC;simp [and_assoc]
theorem uT {a:Nat} (h:a<1048576):XI a=⟨((a/16384:Nat):Int),((a%16384/1024:Nat):Int),a%1024⟩:=if_pos h
theorem uU {a:Nat} (h:a<1048576):ZY a=0:=if_pos h
theorem zk {a:Nat} (h: ¬a<1048576):XI a=⟨0,0,0⟩:=if_neg h
theorem zl {a:Nat} (h: ¬a<1048576):ZY a=3:=if_neg h
theorem CP {g l o:Nat} (hg:g≤63) (hl:l≤15) (ho:o≤1023):FE (g:Int) (l:Int) o=g*16384+l*1024+o∧FH (g:Int) (l:Int) o=0:=by
 have h:yC (g:Int) (l:Int) o=true:=uw.2 ⟨by omega,by omega,by omega,by omega,ho⟩;unfold FE FH;rw [if_pos h,if_pos h];exact ⟨by simp,rfl⟩
theorem at_next {a x y z:Nat} (h:a<1048576) (hx:a/16384=x) (hy:a%16384/1024=y) (hz:a%1024=z):
 (a+1=1048576∧XI (a+1)=⟨0,0,0⟩∧ZY (a+1)=3)∨
 (a+1<1048576∧ZY (a+1)=0∧((z<1023∧XI (a+1)=⟨(x:Int),(y:Int),z+1⟩)∨(¬z<1023∧y<15∧XI (a+1)=⟨(x:Int),(y:Int)+1,0⟩)∨(¬z<1023∧ ¬y<15∧XI (a+1)=⟨(x:Int)+1,0,0⟩))):=by
 by_cases hlt:a+1<1048576
 · refine Or.inr ⟨hlt,uU hlt, ?_⟩
   rw [uT hlt];by_cases h1:z<1023
   · rw [show (a+1)/16384=x by omega,show (a+1)%16384/1024=y by omega,show (a+1)%1024=z+1 by omega]
     exact Or.inl ⟨h1,rfl⟩
   · by_cases h2:y<15
     · rw [show (a+1)/16384=x by omega,show (a+1)%16384/1024=y+1 by omega,show (a+1)%1024=0 by omega]
       exact Or.inr (Or.inl ⟨h1,h2,by simp⟩)
     · rw [show (a+1)/16384=x+1 by omega,show (a+1)%16384/1024=0 by omega,show (a+1)%1024=0 by omega]
       exact Or.inr (Or.inr ⟨h1,h2,by simp⟩)
 · exact Or.inl ⟨by omega,zk hlt,zl hlt⟩
def gJ (f s:Nat) (n:Int):Bool:=decide (1≤s)&&decide (s≤1048576)&&decide (0≤n)&&decide (n≤1024)&&decide (f≤1048576)&&decide (f+n.toNat*s≤1048576)
theorem jy {f s:Nat} {n:Int}:gJ f s n=true↔(1≤s∧s≤1048576∧0≤n∧n≤1024∧f≤1048576∧f+n.toNat*s≤1048576):=by
 unfold gJ;simp [and_assoc]
def sO (f s:Nat) (n:Int):Nat:=if gJ f s n=true then f+n.toNat*s else 0
def lg (f s:Nat) (n i:Int):Nat:=if gJ f s n=true∧0≤i∧i<n then f+i.toNat*s else 0
def kK (f s:Nat) (n i:Int):Int:=if gJ f s n=true then (if 0≤i∧i<n then 0 else 3) else 2
def hits (f s:Nat) (n:Int) (a:Nat):Bool:=decide (f≤a)&&decide (a<f+n.toNat*s)
def gB (f s:Nat) (n:Int) (a:Nat):Nat:=if gJ f s n=true∧hits f s n a=true∧(a-f)%s=0 then (a-f)/s else 0
def fF (f s:Nat) (n:Int) (a:Nat):Int:=if gJ f s n=true then (if hits f s n a=true then (if (a-f)%s=0 then 0 else 5) else 3) else 2
def inN (f s:Nat) (n:Int) (l:List Nat):Bool:=gJ f s n&&l.all fun a=>hits f s n a
theorem su {f s a:Nat} {n:Int}:hits f s n a=true↔(f≤a∧a<f+n.toNat*s):=by unfold hits;simp
theorem H_ {f s a i:Nat} {n:Int} (hi:(i:Int)<n) (h1:f+i*s≤a) (h2:a<f+i*s+s):hits f s n a=true:=by
 refine su.2 ⟨by omega, ?_⟩;have:(i+1)*s≤n.toNat*s:=Nat.mul_le_mul_right s (by omega);rw [Nat.add_mul,Nat.one_mul] at this;omega
theorem KS {f s a i:Nat} (hs:1≤s) (h1:f+i*s≤a) (h2:a<f+i*s+s):(a-f)/s=i∧(a-f)%s=a-(f+i*s):=by
 have e:a-f=(a-(f+i*s))+i*s:=by omega
 have hlt:a-(f+i*s)<s:=by omega
 rw [e];exact ⟨by rw [Nat.add_mul_div_right _ _ (by omega),Nat.div_eq_of_lt hlt,Nat.zero_add],by rw [Nat.add_mul_mod_self_right,Nat.mod_eq_of_lt hlt]⟩
theorem index_hit {f s a i:Nat} {n:Int} (hm:gJ f s n=true) (hi:(i:Int)<n) (h:a=f+i*s):gB f s n a=i∧fF f s n a=0:=by
 have hs:=(jy.1 hm).1;have hh:=H_ (f:=f) (s:=s) (a:=a) hi (by omega) (by omega);obtain ⟨e1,e2⟩:=KS (f:=f) (a:=a) (i:=i) hs (by omega) (by omega);have e3:(a-f)%s=0:=by rw [e2];omega
 unfold gB fF;rw [if_pos ⟨hm,hh,e3⟩,if_pos hm,if_pos hh,if_pos e3];exact ⟨e1,rfl⟩
theorem L_ {f s a:Nat} {n:Int} (hm:gJ f s n=true) (h:hits f s n a=false):gB f s n a=0∧fF f s n a=3:=by
 unfold gB fF;rw [if_neg (fun x=>by rw [h] at x;cases x.2.1),if_pos hm,if_neg (by rw [h];decide)];exact ⟨rfl,rfl⟩
theorem Mc {f s a:Nat} {n:Int} (hm: ¬gJ f s n=true):gB f s n a=0∧fF f s n a=2:=by
 unfold gB fF;rw [if_neg (fun x=>hm x.1),if_neg hm];exact ⟨rfl,rfl⟩
theorem Yi {f s a:Nat} {n:Int} (hs:1≤s) (h: ∀i:Nat,(i:Int)<n→ ¬(f+i*s≤a∧a<f+i*s+s)):hits f s n a=false:=by
 cases hh:hits f s n a with
 |false=>rfl
 |true=>
  obtain ⟨h1,h2⟩:=su.1 hh;have hd:=Nat.div_add_mod (a-f) s;have hm:=Nat.mod_lt (a-f) (show s>0 by omega);have hlt:(a-f)/s<n.toNat:=by
   rw [Nat.div_lt_iff_lt_mul (by omega)];omega
  rw [Nat.mul_comm] at hd;obtain ⟨q,hq⟩: ∃q,(a-f)/s=q:=⟨_,rfl⟩;rw [hq] at hd hlt;exact absurd ⟨by omega,by omega⟩ (h q (by omega))
theorem abj {f s a:Nat} {n:Int}:inN f s n [a]=(decide (fF f s n a=0)||decide (fF f s n a=5)):=by
 unfold inN fF;by_cases hm:gJ f s n=true
 · rw [if_pos hm,hm]
   by_cases hh:hits f s n a=true
   · rw [if_pos hh];by_cases h0:(a-f)%s=0
     · rw [if_pos h0];simp [hh]
     · rw [if_neg h0];simp [hh]
   · rw [if_neg hh];simp [Bool.eq_false_iff.2 hh]
 · rw [if_neg hm,Bool.eq_false_iff.2 hm];simp
abbrev Rn:=Nat×Nat×Int
def VD (a b:Rn):Bool:=gJ a.1 a.2.1 a.2.2&&gJ b.1 b.2.1 b.2.2&&decide (0<a.2.2)&&decide (0<b.2.2)&&decide (a.1<sO b.1 b.2.1 b.2.2)&&decide (b.1<sO a.1 a.2.1 a.2.2)
def rn0:Rn:=(0,0,0)
def abh (l:List Rn) (k:Nat):Bool:=(List.range k).any fun j=>(l.take j).any fun s=>VD (l.getD j rn0) s
def acH (x:Rn) (l:List Rn) (j:Nat):Bool:=(l.take j).any fun s=>VD x s
theorem aax {s:Nat} (h:s≤62):gJ (s*16384) 1024 16=true∧gJ (s*16384+16384) 1024 1=true:=
 ⟨jy.2 ⟨by omega,by omega,by omega,by omega,by omega,by rw [show (16:Int).toNat=16 from rfl];omega⟩,jy.2 ⟨by omega,by omega,by omega,by omega,by omega,by rw [show (1:Int).toNat=1 from rfl];omega⟩⟩
end Go.Proofs.YtpibbcnkgdmcbaaGreatDoor.aG
namespace Go.Proofs.YtpibbcnkgdmcbaaGreatDoor
open Go.RowKit aG
def zL (p:Plc):Value:= .agg #[.int .i64 p.g, .int .i64 p.l, .int .u64 (p.o:Int)]
def iW (f s:Nat) (n:Int):Value:= .agg #[.int .u64 (f:Int), .int .u64 (s:Int), .int .i64 n]
def aa9 (f s:Nat) (n:Int):Array Value:= #[.int .u64 (f:Int), .int .u64 (s:Int), .int .i64 n]
def Elem.runs:Elem Rn:=⟨3,fun x=> [.int .u64 (x.1:Int), .int .u64 (x.2.1:Int), .int .i64 x.2.2],fun _=>rfl,by
 intro x u h;rcases List.mem_cons.1 h with rfl|h
 · rfl
 · rcases List.mem_cons.1 h with rfl|h
   · rfl
   · rw [List.mem_singleton.1 h];rfl,by decide⟩
abbrev dH (n:Int):Prop:= -9223372036854775808≤n∧n≤9223372036854775807
abbrev RnB (x:Rn):Prop:=bM x.1∧bM x.2.1∧dH x.2.2
end Go.Proofs.YtpibbcnkgdmcbaaGreatDoor
namespace Go.Proofs.YtpibbcnkgdmcbaaGreatDoor
open Go.RowKit aG
theorem cast_mul (m s:Nat):((m*s:Nat):Int)=(m:Int)*(s:Int):=Int.natCast_mul m s
theorem Ye {f s:Nat} {n:Int}:
 (∃m:Nat,n=(m:Int)∧1≤s∧s≤1048576∧m≤1024∧f≤1048576∧decide ((f:Int)+(m:Int)*(s:Int)≤1048576)=gJ f s n)∨
 (gJ f s n=false∧(decide ((1:Int)≤(s:Int))=false∨(decide ((1:Int)≤(s:Int))=true∧decide ((s:Int)≤1048576)=false)∨(decide ((1:Int)≤(s:Int))=true∧decide ((s:Int)≤1048576)=true∧decide ((0:Int)≤n)=false)∨
  (decide ((1:Int)≤(s:Int))=true∧decide ((s:Int)≤1048576)=true∧decide ((0:Int)≤n)=true∧decide (n≤1024)=false)∨(decide ((1:Int)≤(s:Int))=true∧decide ((s:Int)≤1048576)=true∧decide ((0:Int)≤n)=true∧decide (n≤1024)=true∧decide ((f:Int)≤1048576)=false))):=by
 by_cases h:1≤s∧s≤1048576∧0≤n∧n≤1024∧f≤1048576
 · obtain ⟨h1,h2,h3,h4,h5⟩:=h
   obtain ⟨m,rfl⟩:=Int.eq_ofNat_of_zero_le h3;refine Or.inl ⟨m,rfl,h1,h2,by omega,h5, ?_⟩;rw [Bool.eq_iff_iff,decide_eq_true_iff,jy,Int.toNat_natCast,←cast_mul];constructor
   · intro h;exact ⟨h1,h2,h3,h4,h5,by omega⟩
   · rintro ⟨_,_,_,_,_,h⟩;omega
 · refine Or.inr ⟨?_, ?_⟩
   · rw [Bool.eq_false_iff]
     intro x;obtain ⟨h1,h2,h3,h4,h5,_⟩:=jy.1 x;exact h ⟨h1,h2,h3,h4,h5⟩
   · simp only [decide_eq_true_iff,decide_eq_false_iff_not]
     omega
theorem wE {m s:Nat} (hm:m≤1024) (hs:s≤1048576):(0:Int)≤(m:Int)*(s:Int)∧(m:Int)*(s:Int)≤1073741824:=by
 rw [←cast_mul];have:m*s≤1024*1048576:=Nat.mul_le_mul hm hs;omega
theorem yh {f s:Nat} {n:Int} (h:gJ f s n=true): ∃m:Nat,n=(m:Int)∧1≤s∧s≤1048576∧m≤1024∧f≤1048576∧f+m*s≤1048576:=by
 obtain ⟨h1,h2,h3,h4,h5,h6⟩:=jy.1 h;obtain ⟨m,rfl⟩:=Int.eq_ofNat_of_zero_le h3;rw [Int.toNat_natCast] at h6;exact ⟨m,rfl,h1,h2,by omega,h5,h6⟩
theorem QI {f s m:Nat} (h:gJ f s (m:Int)=true):((sO f s (m:Int):Nat):Int)=(f:Int)+(m:Int)*(s:Int):=by
 unfold sO;rw [if_pos h,Int.toNat_natCast,Int.natCast_add,cast_mul]
theorem MP {f s:Nat} {n:Int} (h:gJ f s n=false):sO f s n=0:=by
 unfold sO;rw [if_neg (by rw [h];decide)]
theorem I8 {f s m i:Nat} (h:gJ f s (m:Int)=true) (hi:i<m):((lg f s (m:Int) (i:Int):Nat):Int)=(f:Int)+(i:Int)*(s:Int)∧kK f s (m:Int) (i:Int)=0:=by
 unfold lg kK;rw [if_pos ⟨h,by omega,by omega⟩,if_pos h,if_pos ⟨by omega,by omega⟩,Int.toNat_natCast,Int.natCast_add,cast_mul];exact ⟨rfl,rfl⟩
theorem Nb {f s:Nat} {n i:Int} (h:gJ f s n=true) (hi: ¬(0≤i∧i<n)):lg f s n i=0∧kK f s n i=3:=by
 unfold lg kK;rw [if_neg (fun x=>hi x.2),if_pos h,if_neg hi];exact ⟨rfl,rfl⟩
theorem Fj {f s:Nat} {n i:Int} (h:gJ f s n=false):lg f s n i=0∧kK f s n i=2:=by
 unfold lg kK;rw [if_neg (fun x=>by rw [h] at x;cases x.1),if_neg (by rw [h];decide)];exact ⟨rfl,rfl⟩
end Go.Proofs.YtpibbcnkgdmcbaaGreatDoor
namespace Go.Proofs.YtpibbcnkgdmcbaaGreatDoor
open Go.RowKit aG
theorem qR (w:World) (i n:Int) (hi:dH i) (hn:dH n):Calls Tryz.prog 144 #[.int .i64 i, .int .i64 n] w fun e w'=>e= .returned (.bool (decide (0≤i)&&decide (i<n)))∧w'=w:=by
 obtain ⟨i1,i2⟩:=hi;obtain ⟨n1,n2⟩:=hn;by_cases h:0≤i
 · have t1:decide ((0:Int)≤i)=true:=decide_eq_true h
   obtain ⟨b,hb⟩: ∃b,decide (i<n)=b:=⟨_,rfl⟩;rw [t1,hb];go_enter Tryz.func144,Tryz.ntmps144
   go_wp2;go_ret;exact ⟨by simp,rfl⟩
 · have t1:decide ((0:Int)≤i)=false:=decide_eq_false h
   rw [t1];go_enter Tryz.func144,Tryz.ntmps144
   go_wp2;go_ret;exact ⟨by simp,rfl⟩
theorem y9 (w:World) (f s m:Nat) (hf:bM f) (hs:s≤1048576) (hm:m≤1024):Calls Tryz.prog 105 #[iW f s (m:Int)] w fun e w'=>e= .returned (.int .u64 ((m:Int)*(s:Int)))∧Below w.heap.size w w':=by
 obtain ⟨p1,p2⟩:=wE hm hs;have w1:IntKind.u64.wrap (m:Int)=(m:Int):=u64_in _ ⟨by omega,by omega⟩;unfold iW;go_enter Tryz.func105,Tryz.ntmps105
 go_wp2;go_ret;exact ⟨rfl,(Below.refl _ w).alloc (Nat.le_refl _) _⟩
structure nJ (w:World) (b:Nat) (t:TypeId) (f s:Nat) (n:Int) (w':World):Prop where
 B:aV w' b t (aa9 f s n)
 below:Below w.heap.size w w'
theorem nJ.grew {w w' w2:World} {b:Nat} {t:TypeId} {f s:Nat} {n:Int} (h:nJ w b t f s n w') (hb:Below w'.heap.size w' w2):nJ w b t f s n w2:=⟨h.B.grew hb,ah h.below h.below.size hb⟩
theorem nJ.drew {w w':World} {b:Nat} {t:TypeId} {f s:Nat} {n:Int} (h:nJ w b t f s n w'):nJ w b t f s n w'.drew:=⟨h.B,h.below.drew⟩
def X9 (w':World) (b f s:Nat) (n:Int):Prop:=w'.cell? ⟨b,0,none⟩=some (.int .u64 (f:Int))∧w'.cell? ⟨b,1,none⟩=some (.int .u64 (s:Int))∧w'.cell? ⟨b,2,none⟩=some (.int .i64 n)
theorem nJ.cells {w w':World} {b:Nat} {t:TypeId} {f s:Nat} {n:Int} (h:nJ w b t f s n w'):X9 w' b f s n:=⟨h.B.cell 0,h.B.cell 1,h.B.cell 2⟩
theorem lQ (w:World) (t:TypeId) (f s:Nat) (n:Int) {W:World} (hW:w.alloc (.cells #[.int .u64 (f:Int), .int .u64 (s:Int), .int .i64 n] t)=W):nJ w w.heap.size t f s n W:=by
 subst hW;exact ⟨aV.new w _ _,(Below.refl _ w).alloc (Nat.le_refl _) _⟩
theorem PY {f s m:Nat} (h1:1≤s) (h2:s≤1048576) (h3:m≤1024) (h4:f≤1048576):decide ((m:Int)*(s:Int)≤1048576-(f:Int))=gJ f s (m:Int):=by
 rw [Bool.eq_iff_iff,decide_eq_true_iff,jy,Int.toNat_natCast,←cast_mul];constructor
 · intro h;exact ⟨h1,h2,by omega,by omega,h4,by omega⟩
 · rintro ⟨_,_,_,_,_,h⟩;omega
theorem GY {f s:Nat} {n:Int}:
 (∃m:Nat,n=(m:Int)∧1≤s∧s≤1048576∧m≤1024∧f≤1048576)∨
 (gJ f s n=false∧(decide ((s:Int)<1)=true∨(decide ((s:Int)<1)=false∧decide ((1048576:Int)<(s:Int))=true)∨(decide ((s:Int)<1)=false∧decide ((1048576:Int)<(s:Int))=false∧decide (n<0)=true)∨
  (decide ((s:Int)<1)=false∧decide ((1048576:Int)<(s:Int))=false∧decide (n<0)=false∧decide ((1024:Int)<n)=true)∨(decide ((s:Int)<1)=false∧decide ((1048576:Int)<(s:Int))=false∧decide (n<0)=false∧decide ((1024:Int)<n)=false∧decide ((1048576:Int)<(f:Int))=true))):=by
 by_cases h:1≤s∧s≤1048576∧0≤n∧n≤1024∧f≤1048576
 · obtain ⟨h1,h2,h3,h4,h5⟩:=h
   obtain ⟨m,rfl⟩:=Int.eq_ofNat_of_zero_le h3;exact Or.inl ⟨m,rfl,h1,h2,by omega,h5⟩
 · refine Or.inr ⟨?_, ?_⟩
   · rw [Bool.eq_false_iff]
     intro x;obtain ⟨h1,h2,h3,h4,h5,_⟩:=jy.1 x;exact h ⟨h1,h2,h3,h4,h5⟩
   · simp only [decide_eq_true_iff,decide_eq_false_iff_not]
     omega
theorem y7 (w:World) (f s:Nat) (n:Int) (hf:bM f) (hs:bM s) (hn:dH n):Calls Tryz.prog 69 #[iW f s n] w fun e w'=>e= .returned (.bool (gJ f s n))∧Below w.heap.size w w':=by
 obtain ⟨n1,n2⟩:=hn;rcases GY (f:=f) (s:=s) (n:=n) with ⟨m,rfl,h1,h2,h3,h4⟩|⟨hno,hc⟩
 · have HB:=Lib.hid (fun w=>y9 w f s m hf h2 h3)
   have E:=Lib.hid (PY h1 h2 h3 h4);obtain ⟨p,hp⟩: ∃p:Int,(m:Int)*(s:Int)=p:=⟨_,rfl⟩;obtain ⟨p1,p2⟩:=wE h3 h2;rw [hp] at HB E p1 p2;obtain ⟨b,hb⟩: ∃b,gJ f s (m:Int)=b:=⟨_,rfl⟩;rw [hb] at E⊢;have t1:decide ((s:Int)<1)=false:=decide_eq_false (by omega);have t2:decide ((1048576:Int)<(s:Int))=false:=decide_eq_false (by omega);have t3:decide ((m:Int)<0)=false:=decide_eq_false (by omega);have t4:decide ((1024:Int)<(m:Int))=false:=decide_eq_false (by omega);have t5:decide ((1048576:Int)<(f:Int))=false:=decide_eq_false (by omega);clear hp hb;unfold iW at HB⊢;go_enter Tryz.func69,Tryz.ntmps69
   go_wp2_with fail
   generalize hW:w.alloc (.cells #[.int .u64 (f:Int), .int .u64 (s:Int), .int .i64 (m:Int)] 96)=W
   have ST:=Lib.hid (lQ w 96 f s (m:Int) hW);obtain ⟨bb,hbb⟩: ∃bb,w.heap.size=bb:=⟨_,rfl⟩;rw [hbb] at ST;clear hW;obtain ⟨E',WW,x0,hx0,hE,hS⟩:=Kg _ ST.out.drew;have c0: ∀x,(WW x).cell? ⟨bb,0,none⟩=some (.int .u64 (f:Int)):=fun x=>(hS x).cells.1;have c1: ∀x,(WW x).cell? ⟨bb,1,none⟩=some (.int .u64 (s:Int)):=fun x=>(hS x).cells.2.1;have c2: ∀x,(WW x).cell? ⟨bb,2,none⟩=some (.int .i64 (m:Int)):=fun x=>(hS x).cells.2.2;have hne:Nonempty E':=⟨x0⟩;have HS:=Lib.hid hS;have HEE:=Lib.hid hE;clear hS hE ST;refine j5 WW x0 hx0 (by kernel_rfl) (by kernel_rfl) ?_
   repeat (go_big_quiet_step (first
    |(go_at_call_of 105 f;refine (HB.out _).mono ?_;rintro e w5 ⟨rfl,hb⟩;exact ⟨rfl,HEE.out _ ((HS.out _).grew hb)⟩)))
   refine wpQuiet_nil ?_;rintro _ ⟨nq,rfl⟩;go_wp2;go_ret;exact ⟨(show Ending.returned (.bool (decide (p≤1048576-(f:Int))))=_ from by rw [E.out]),(HS.out nq).below⟩
 · rw [hno]
   clear hno;unfold iW;rcases hc with t1|⟨t1,t2⟩|⟨t1,t2,t3⟩|⟨t1,t2,t3,t4⟩|⟨t1,t2,t3,t4,t5⟩
   all_goals
    go_enter Tryz.func69,Tryz.ntmps69
    go_wp2;go_ret;exact ⟨rfl,(Below.refl _ w).alloc (Nat.le_refl _) _⟩
theorem Fa (w:World) (f s:Nat) (n:Int) (hf:bM f) (hs:bM s) (hn:dH n):Calls Tryz.prog 106 #[iW f s n] w fun e w'=>e= .returned (.int .u64 ((sO f s n:Nat):Int))∧Below w.heap.size w w':=by
 have HM:=Lib.hid (fun w=>y7 w f s n hf hs hn);obtain ⟨n1,n2⟩:=hn;obtain ⟨E,hE⟩: ∃E,sO f s n=E:=⟨_,rfl⟩;rw [hE];cases hm:gJ f s n with
 |false=>
  obtain rfl:E=0:=by rw [←hE];exact MP hm
  rw [hm] at HM;clear hE hm;unfold iW at HM⊢;go_enter Tryz.func106,Tryz.ntmps106
  go_wp2_with fail
  refine (HM.out _).mono ?_;rintro e w1 ⟨rfl,hb⟩;have B1:=Lib.hid (ah ((Below.refl _ w).alloc (Nat.le_refl _) _) (by simp) hb);clear hb;go_wp2;go_ret;exact ⟨rfl,B1.out⟩
 |true=>
  rw [hm] at HM;obtain ⟨m,rfl,h1,h2,h3,h4,h5⟩:=yh hm;have HE:=Lib.hid (QI hm);rw [hE] at HE;have HB:=Lib.hid (fun w=>y9 w f s m hf h2 h3);obtain ⟨p1,p2⟩:=wE h3 h2;obtain ⟨p,hp⟩: ∃p:Int,(m:Int)*(s:Int)=p:=⟨_,rfl⟩;rw [hp] at HB HE p1 p2;clear hE hm h5 hp;unfold iW at HM HB⊢;go_enter Tryz.func106,Tryz.ntmps106
  go_wp2_with fail
  generalize hW:w.alloc (.cells #[.int .u64 (f:Int), .int .u64 (s:Int), .int .i64 (m:Int)] 96)=W
  have ST:=Lib.hid (lQ w 96 f s (m:Int) hW);obtain ⟨bb,hbb⟩: ∃bb,w.heap.size=bb:=⟨_,rfl⟩;rw [hbb] at ST;clear hW;refine (HM.out _).mono ?_;rintro e w1 ⟨rfl,hb⟩;have ST:=Lib.hid (ST.out.grew hb);clear hb;go_wp2_with fail
  obtain ⟨E',WW,x0,hx0,hE,hS⟩:=Kg _ ST.out.drew;have c0: ∀x,(WW x).cell? ⟨bb,0,none⟩=some (.int .u64 (f:Int)):=fun x=>(hS x).cells.1;have c1: ∀x,(WW x).cell? ⟨bb,1,none⟩=some (.int .u64 (s:Int)):=fun x=>(hS x).cells.2.1;have c2: ∀x,(WW x).cell? ⟨bb,2,none⟩=some (.int .i64 (m:Int)):=fun x=>(hS x).cells.2.2;have hne:Nonempty E':=⟨x0⟩;have HS:=Lib.hid hS;have HEE:=Lib.hid hE;clear hS hE ST;refine j5 WW x0 hx0 (by kernel_rfl) (by kernel_rfl) ?_
  repeat (go_big_quiet_step (first
   |(go_at_call_of 105 f;refine (HB.out _).mono ?_;rintro e w5 ⟨rfl,hb⟩;exact ⟨rfl,HEE.out _ ((HS.out _).grew hb)⟩)))
  refine wpQuiet_nil ?_;rintro _ ⟨nq,rfl⟩;go_wp2;go_ret;exact ⟨(show Ending.returned (.int .u64 ((f:Int)+p))=_ from WH HE.out.symm),(HS.out nq).below⟩
theorem QU (w:World) (f s:Nat) (n:Int) (a:Nat) (hf:bM f) (hs:bM s) (hn:dH n) (ha:bM a) (hm:gJ f s n=true):Calls Tryz.prog 70 #[iW f s n, .int .u64 (a:Int)] w fun e w'=>e= .returned (.bool (hits f s n a))∧Below w.heap.size w w':=by
 have HE:=Lib.hid (fun w=>Fa w f s n hf hs hn);obtain ⟨n1,n2⟩:=hn;have hh:hits f s n a=(decide (f≤a)&&decide (a<sO f s n)):=by unfold hits sO;rw [if_pos hm]
 rw [hh];obtain ⟨E,hE⟩: ∃E,sO f s n=E:=⟨_,rfl⟩;rw [hE] at HE⊢;clear hE hh hm;unfold iW at HE⊢;by_cases h:f≤a
 · have t1:decide ((f:Int)≤(a:Int))=true:=decide_eq_true (by omega)
   have t1':decide (f≤a)=true:=decide_eq_true h;obtain ⟨b,hb⟩: ∃b,decide (a<E)=b:=⟨_,rfl⟩;have t2:decide ((a:Int)<(E:Int))=b:=by rw [←hb,Bool.eq_iff_iff,decide_eq_true_iff,decide_eq_true_iff];omega
   rw [t1',hb];go_enter Tryz.func70,Tryz.ntmps70
   go_wp2_with fail
   refine (HE.out _).mono ?_;rintro e w1 ⟨rfl,hb⟩;have B1:=Lib.hid (ah ((Below.refl _ w).alloc (Nat.le_refl _) _) (by simp) hb);clear hb;go_wp2;go_ret;exact ⟨by simp,B1.out⟩
 · have t1:decide ((f:Int)≤(a:Int))=false:=decide_eq_false (by omega)
   have t1':decide (f≤a)=false:=decide_eq_false h;rw [t1'];go_enter Tryz.func70,Tryz.ntmps70
   go_wp2;go_ret;exact ⟨by simp,(Below.refl _ w).alloc (Nat.le_refl _) _⟩
end Go.Proofs.YtpibbcnkgdmcbaaGreatDoor
namespace Go.Proofs.YtpibbcnkgdmcbaaGreatDoor
open Go.RowKit aG
theorem Cx (w:World) (a:Nat) (ha:bM a):Calls Tryz.prog 65 #[.int .u64 (a:Int)] w fun e w'=>e= .returned (.tuple #[zL (XI a), .int .i64 (ZY a)])∧Below w.heap.size w w':=by
 by_cases h:a<1048576
 · rw [uT h,uU h]
   have t1:decide ((1048576:Int)≤(a:Int))=false:=decide_eq_false (by omega);obtain ⟨x,hx⟩: ∃x,a/16384=x:=⟨_,rfl⟩;obtain ⟨y,hy⟩: ∃y,a%16384=y:=⟨_,rfl⟩;obtain ⟨z,hz⟩: ∃z,y/1024=z:=⟨_,rfl⟩;obtain ⟨o,ho⟩: ∃o,a%1024=o:=⟨_,rfl⟩;rw [hy,hx,hz,ho];have d1:Int.tdiv (a:Int) 16384=(x:Int):=by rw [←hx];exact (Int.ofNat_tdiv _ _).symm
   have d2:Int.tmod (a:Int) 16384=(y:Int):=by rw [←hy];exact (Int.ofNat_tmod _ _).symm
   have d3:Int.tdiv (y:Int) 1024=(z:Int):=by rw [←hz];exact (Int.ofNat_tdiv _ _).symm
   have d4:Int.tmod (a:Int) 1024=(o:Int):=by rw [←ho];exact (Int.ofNat_tmod _ _).symm
   have i1:(a:Int)/16384=(x:Int):=by omega
   have i2:(a:Int)%16384=(y:Int):=by omega
   have i3:(y:Int)/1024=(z:Int):=by omega
   have i4:(a:Int)%1024=(o:Int):=by omega
   have w1:IntKind.i64.wrap (x:Int)=(x:Int):=IntWalk.i64_in _ ⟨by omega,by omega⟩;have w2:IntKind.i64.wrap (z:Int)=(z:Int):=IntWalk.i64_in _ ⟨by omega,by omega⟩;clear h hx hy hz ho;go_enter Tryz.func65,Tryz.ntmps65
   go_wp2;refine bodyPost_ret (v:= .tuple #[zL ⟨(x:Int),(z:Int),o⟩, .int .i64 0]) ?_ rfl ⟨rfl,(Below.refl _ w).alloc (Nat.le_refl _) _⟩;simp [results,Tryz.results65,go_sem,zL]
 · rw [zk h,zl h]
   have t1:decide ((1048576:Int)≤(a:Int))=true:=decide_eq_true (by omega);clear h;go_enter Tryz.func65,Tryz.ntmps65
   go_wp2;refine bodyPost_ret (v:= .tuple #[zL ⟨0,0,0⟩, .int .i64 3]) ?_ rfl ⟨rfl,(Below.refl _ w).alloc (Nat.le_refl _) _⟩;simp [results,Tryz.results65,go_sem,zL]
theorem uR (w:World) (g l:Int) (o:Nat) (hg:dH g) (hl:dH l) (ho:bM o):Calls Tryz.prog 109 #[.agg #[.int .i64 g, .int .i64 l, .int .u64 (o:Int)]] w fun e w'=>e= .returned (.tuple #[.int .u64 ((FE g l o:Nat):Int), .int .i64 (FH g l o)])∧Below w.heap.size w w':=by
 have HG:=Lib.hid (fun w=>qR w g 64 hg (by decide));have HL:=Lib.hid (fun w=>qR w l 16 hl (by decide));obtain ⟨g1,g2⟩:=hg;obtain ⟨l1,l2⟩:=hl;have hcase:(∃x y:Nat,g=(x:Int)∧l=(y:Int)∧x≤63∧y≤15∧o≤1023)∨(yC g l o=false∧(((decide (0≤g)&&decide (g<64))=false)∨((decide (0≤g)&&decide (g<64))=true∧(decide (0≤l)&&decide (l<16))=false)∨((decide (0≤g)&&decide (g<64))=true∧(decide (0≤l)&&decide (l<16))=true∧decide ((1024:Int)≤(o:Int))=true))):=by
  by_cases h:yC g l o=true
  · obtain ⟨h1,h2,h3,h4,h5⟩:=uw.1 h
    exact Or.inl ⟨g.toNat,l.toNat,by omega,by omega,by omega,by omega,h5⟩
  · refine Or.inr ⟨Bool.eq_false_iff.2 h, ?_⟩
    rw [uw] at h;simp only [Bool.and_eq_true,Bool.and_eq_false_iff,decide_eq_true_iff,decide_eq_false_iff_not];omega
 rcases hcase with ⟨x,y,rfl,rfl,hx,hy,ho2⟩|⟨hno,hcase⟩
 · obtain ⟨e1,e2⟩:=CP (l:=y) hx hy ho2
   rw [e1,e2];have t1:(decide ((0:Int)≤(x:Int))&&decide ((x:Int)<64))=true:=by simp only [Bool.and_eq_true,decide_eq_true_iff];omega
   have t2:(decide ((0:Int)≤(y:Int))&&decide ((y:Int)<16))=true:=by simp only [Bool.and_eq_true,decide_eq_true_iff];omega
   rw [t1] at HG;rw [t2] at HL;have t5:decide ((1024:Int)≤(o:Int))=false:=decide_eq_false (by omega);have w1:IntKind.u64.wrap (x:Int)=(x:Int):=u64_in _ ⟨by omega,by omega⟩;have w2:IntKind.u64.wrap (y:Int)=(y:Int):=u64_in _ ⟨by omega,by omega⟩;clear e1 e2 t1 t2;go_enter Tryz.func109,Tryz.ntmps109
   go_wp2_with fail
   refine (HG.out _).mono ?_;rintro e w3 ⟨rfl,rfl⟩;go_wp2_with fail
   refine (HL.out _).mono ?_;rintro e w3 ⟨rfl,rfl⟩;go_wp2
   go_ret2
   exact ⟨(show Ending.returned (.tuple #[.int .u64 ((x:Int)*16384+(y:Int)*1024+(o:Int)), .int .i64 0])=_ from WG (by omega) rfl),(Below.refl _ w).alloc (Nat.le_refl _) _⟩
 · have e1:FE g l o=0:=by unfold FE;rw [if_neg (by rw [hno];decide)]
   have e2:FH g l o=3:=by unfold FH;rw [if_neg (by rw [hno];decide)]
   rw [e1,e2];clear e1 e2 hno;rcases hcase with t1|⟨t1,t2⟩|⟨t1,t2,t3⟩
   · rw [t1] at HG
     clear t1;go_enter Tryz.func109,Tryz.ntmps109
     go_wp2_with fail
     refine (HG.out _).mono ?_;rintro e w3 ⟨rfl,rfl⟩;go_wp2
     go_ret2
     exact ⟨rfl,(Below.refl _ w).alloc (Nat.le_refl _) _⟩
   · rw [t1] at HG;rw [t2] at HL
     clear t1 t2;go_enter Tryz.func109,Tryz.ntmps109
     go_wp2_with fail
     refine (HG.out _).mono ?_;rintro e w3 ⟨rfl,rfl⟩;go_wp2_with fail
     refine (HL.out _).mono ?_;rintro e w3 ⟨rfl,rfl⟩;go_wp2
     go_ret2
     exact ⟨rfl,(Below.refl _ w).alloc (Nat.le_refl _) _⟩
   · rw [t1] at HG;rw [t2] at HL
     clear t1 t2;go_enter Tryz.func109,Tryz.ntmps109
     go_wp2_with fail
     refine (HG.out _).mono ?_;rintro e w3 ⟨rfl,rfl⟩;go_wp2_with fail
     refine (HL.out _).mono ?_;rintro e w3 ⟨rfl,rfl⟩;go_wp2
     go_ret2
     exact ⟨rfl,(Below.refl _ w).alloc (Nat.le_refl _) _⟩
theorem za (w:World) (f s:Nat) (n i:Int) (hf:bM f) (hs:bM s) (hn:dH n) (hi:dH i):Calls Tryz.prog 182 #[iW f s n, .int .i64 i] w fun e w'=>e= .returned (.tuple #[.int .u64 ((lg f s n i:Nat):Int), .int .i64 (kK f s n i)])∧Below w.heap.size w w':=by
 have HM:=Lib.hid (fun w=>y7 w f s n hf hs hn);have HL:=Lib.hid (fun w=>qR w i n hi hn);obtain ⟨n1,n2⟩:=hn;obtain ⟨i1,i2⟩:=hi;unfold iW at HM⊢;cases hm:gJ f s n with
 |false=>
  obtain ⟨e1,e2⟩:=Fj (i:=i) hm;rw [e1,e2];rw [hm] at HM;clear e1 e2 hm;go_enter Tryz.func182,Tryz.ntmps182
  go_wp2_with fail
  refine (HM.out _).mono ?_;rintro e w1 ⟨rfl,hb⟩;have B1:=Lib.hid (ah ((Below.refl _ w).alloc (Nat.le_refl _) _) (by simp) hb);clear hb;go_wp2
  go_ret2
  exact ⟨rfl,B1.out⟩
 |true=>
  rw [hm] at HM;obtain ⟨m,rfl,h1,h2,h3,h4,h5⟩:=yh hm;by_cases hin:0≤i∧i<(m:Int)
  · obtain ⟨j,rfl⟩:=Int.eq_ofNat_of_zero_le hin.1
    have hj:j<m:=by omega
    obtain ⟨e1,e2⟩:=I8 hm hj;rw [e1,e2];have H5:=Lib.hid h5;obtain ⟨p1,p2⟩:=wE (show j≤1024 by omega) h2;have t1:(decide ((0:Int)≤(j:Int))&&decide ((j:Int)<(m:Int)))=true:=by simp only [Bool.and_eq_true,decide_eq_true_iff];omega
    rw [t1] at HL;have w1:IntKind.u64.wrap (j:Int)=(j:Int):=u64_in _ ⟨by omega,by omega⟩;clear e1 e2 hm h5 hin t1;go_enter Tryz.func182,Tryz.ntmps182
    go_wp2_with fail
    refine (HM.out _).mono ?_;rintro e w1 ⟨rfl,hb⟩;have B1:=Lib.hid (ah ((Below.refl _ w).alloc (Nat.le_refl _) _) (by simp) hb);have K:=(aV.new w 96 #[.int .u64 (f:Int), .int .u64 (s:Int), .int .i64 (m:Int)]).grew hb;obtain ⟨bq,hbq⟩: ∃bq,w.heap.size=bq:=⟨_,rfl⟩;rw [hbq] at K;have r0:w1.cell? ⟨bq,0,none⟩=some (.int .u64 (f:Int)):=K.cell 0;have r1:w1.cell? ⟨bq,1,none⟩=some (.int .u64 (s:Int)):=K.cell 1;have r2:w1.cell? ⟨bq,2,none⟩=some (.int .i64 (m:Int)):=K.cell 2;clear hb K;go_wp2_with fail
    refine (HL.out _).mono ?_;rintro e w3 ⟨rfl,rfl⟩;go_wp2
    go_ret2
    exact ⟨rfl,B1.out⟩
  · obtain ⟨e1,e2⟩:=Nb hm hin
    rw [e1,e2];have t1:(decide ((0:Int)≤i)&&decide (i<(m:Int)))=false:=by simp only [Bool.and_eq_false_iff,decide_eq_false_iff_not];omega
    rw [t1] at HL;clear e1 e2 hm h5 hin t1;go_enter Tryz.func182,Tryz.ntmps182
    go_wp2_with fail
    refine (HM.out _).mono ?_;rintro e w1 ⟨rfl,hb⟩;have B1:=Lib.hid (ah ((Below.refl _ w).alloc (Nat.le_refl _) _) (by simp) hb);have K:=(aV.new w 96 #[.int .u64 (f:Int), .int .u64 (s:Int), .int .i64 (m:Int)]).grew hb;obtain ⟨bq,hbq⟩: ∃bq,w.heap.size=bq:=⟨_,rfl⟩;rw [hbq] at K;have r2:w1.cell? ⟨bq,2,none⟩=some (.int .i64 (m:Int)):=K.cell 2;clear hb K;go_wp2_with fail
    refine (HL.out _).mono ?_;rintro e w3 ⟨rfl,rfl⟩;go_wp2
    go_ret2
    exact ⟨rfl,B1.out⟩
theorem Ma {f s a m x:Nat} (hm:gJ f s (m:Int)=true) (hh:hits f s (m:Int) a=true) (hx:a-f=x):f≤a∧x/s≤1024∧
 ((x%s=0∧gB f s (m:Int) a=x/s∧fF f s (m:Int) a=0)∨(¬x%s=0∧gB f s (m:Int) a=0∧fF f s (m:Int) a=5)):=by
 subst hx;obtain ⟨a1,a2⟩:=su.1 hh;obtain ⟨h1,h2,h3,h4,h5,h6⟩:=jy.1 hm;rw [Int.toNat_natCast] at a2 h6;refine ⟨a1, ?_, ?_⟩
 · have:(a-f)/s<m:=by rw [Nat.div_lt_iff_lt_mul (by omega)];omega
   omega
 · unfold gB fF
   rw [if_pos hm,if_pos hh];by_cases h0:(a-f)%s=0
   · rw [if_pos h0,if_pos ⟨hm,hh,h0⟩];exact Or.inl ⟨h0,rfl,rfl⟩
   · rw [if_neg h0,if_neg (fun x=>h0 x.2.2)];exact Or.inr ⟨h0,rfl,rfl⟩
theorem y8 (w:World) (f s:Nat) (n:Int) (a:Nat) (hf:bM f) (hs:bM s) (hn:dH n) (ha:bM a):Calls Tryz.prog 33 #[iW f s n, .int .u64 (a:Int)] w fun e w'=>e= .returned (.tuple #[.int .i64 ((gB f s n a:Nat):Int), .int .i64 (fF f s n a)])∧Below w.heap.size w w':=by
 have HM:=Lib.hid (fun w=>y7 w f s n hf hs hn);have HH:=Lib.hid (fun w hm=>QU w f s n a hf hs hn ha hm);obtain ⟨n1,n2⟩:=hn;unfold iW at HM HH⊢;cases hm:gJ f s n with
 |false=>
  obtain ⟨e1,e2⟩:=Mc (a:=a) (fun x=>by rw [hm] at x;cases x);rw [e1,e2];rw [hm] at HM;clear e1 e2 hm HH;go_enter Tryz.func33,Tryz.ntmps33
  go_wp2_with fail
  refine (HM.out _).mono ?_;rintro e w1 ⟨rfl,hb⟩;have B1:=Lib.hid (ah ((Below.refl _ w).alloc (Nat.le_refl _) _) (by simp) hb);clear hb;go_wp2
  go_ret2
  exact ⟨rfl,B1.out⟩
 |true=>
  rw [hm] at HM;obtain ⟨m,rfl,h1,h2,h3,h4,h5⟩:=yh hm;have HT:=Lib.hid (fun w=>HH.out w hm);clear HH;cases hh:hits f s (m:Int) a with
  |false=>
   obtain ⟨e1,e2⟩:=L_ hm hh;rw [e1,e2];rw [hh] at HT;clear e1 e2 hm hh h5;go_enter Tryz.func33,Tryz.ntmps33
   go_wp2_with fail
   generalize hW:w.alloc (.cells #[.int .u64 (f:Int), .int .u64 (s:Int), .int .i64 (m:Int)] 96)=W
   have ST:=Lib.hid (lQ w 96 f s (m:Int) hW);obtain ⟨bb,hbb⟩: ∃bb,w.heap.size=bb:=⟨_,rfl⟩;rw [hbb] at ST;clear hW;refine (HM.out _).mono ?_;rintro e w1 ⟨rfl,hb⟩;have ST:=Lib.hid (ST.out.grew hb);obtain ⟨r0,r1,r2⟩:=ST.out.cells;clear hb;go_wp2_with fail
   refine (HT.out _).mono ?_;rintro e w2 ⟨rfl,hb⟩;have ST:=Lib.hid (ST.out.grew hb);clear hb r0 r1 r2;go_wp2
   go_ret2
   exact ⟨rfl,ST.out.below⟩
  |true=>
   rw [hh] at HT;obtain ⟨x,hx⟩: ∃x,a-f=x:=⟨_,rfl⟩;obtain ⟨a1,a2,hcase⟩:=Ma hm hh hx;have i1:(a:Int)-(f:Int)=(x:Int):=by omega
   obtain ⟨q,hq⟩: ∃q,x/s=q:=⟨_,rfl⟩;obtain ⟨y,hy⟩: ∃y,x%s=y:=⟨_,rfl⟩;have d1:Int.tdiv (x:Int) (s:Int)=(q:Int):=by rw [←hq];exact (Int.ofNat_tdiv _ _).symm
   have d2:Int.tmod (x:Int) (s:Int)=(y:Int):=by rw [←hy];exact (Int.ofNat_tmod _ _).symm
   have d0:((s:Int)==0)=false:=by rw [beq_eq_false_iff_ne];omega
   have d0': ¬(s:Int)=0:=by omega
   rw [hq] at a2 hcase;rw [hy] at hcase;have w1:IntKind.i64.wrap (q:Int)=(q:Int):=IntWalk.i64_in _ ⟨by omega,by omega⟩;have hy0:(y=0∧((y:Int) !=0)=false∧gB f s (m:Int) a=q∧fF f s (m:Int) a=0)∨(¬y=0∧((y:Int) !=0)=true∧gB f s (m:Int) a=0∧fF f s (m:Int) a=5):=by
    rcases hcase with ⟨c1,c2⟩|⟨c1,c2⟩
    · exact Or.inl ⟨c1,by simp [c1],c2⟩
    · exact Or.inr ⟨c1,by rw [bne_iff_ne];omega,c2⟩
   clear hm hh h5 hx hq hy hcase;have D0:=Lib.hid d0';rcases hy0 with ⟨y0,t1,e1,e2⟩|⟨y0,t1,e1,e2⟩
   all_goals
    rw [e1,e2];have Y0:=Lib.hid y0;clear e1 e2 y0;go_enter Tryz.func33,Tryz.ntmps33
    go_wp2_with fail
    generalize hW:w.alloc (.cells #[.int .u64 (f:Int), .int .u64 (s:Int), .int .i64 (m:Int)] 96)=W
    have ST:=Lib.hid (lQ w 96 f s (m:Int) hW);obtain ⟨bb,hbb⟩: ∃bb,w.heap.size=bb:=⟨_,rfl⟩;rw [hbb] at ST;clear hW;refine (HM.out _).mono ?_;rintro e w1 ⟨rfl,hb⟩;have ST:=Lib.hid (ST.out.grew hb);obtain ⟨r0,r1,r2⟩:=ST.out.cells;clear hb;go_wp2_with fail
    refine (HT.out _).mono ?_;rintro e w2 ⟨rfl,hb⟩;have ST:=Lib.hid (ST.out.grew hb);clear hb r0 r1 r2;obtain ⟨r0,r1,r2⟩:=ST.out.cells;go_wp2
    go_ret2
    exact ⟨rfl,ST.out.below⟩
end Go.Proofs.YtpibbcnkgdmcbaaGreatDoor
