/- CallsJ: texts of layers below, joined (StackMath Stks14). -/
import Derived.Lib.Hide
import Derived.Test.YtpibbcnkgdmcbaaGreatDoorCells12
import Derived.Deep.RegionHeld3
import Derived.Deep.RegionLaw
import Derived.IntWalk
set_option linter.unusedVariables false
set_option maxRecDepth 100000
set_option maxHeartbeats 1000000
namespace Go.Proofs.YtpibbcnkgdmcbaaGreatDoor.bP
def mM:List Nat→Nat
 | []=>0
 |a::_=>a+1
def mO:List Nat→Int
 | []=> -1
 |a::_=>(a:Int)
def qc (i:Int):Nat:=(i+1).toNat
structure SS where
 L:List Nat
 B:Nat→Nat
 t:Nat
 n:Nat
def rP (B:Nat→Nat) (p v:Nat):Nat→Nat:=fun x=>if x=p then v else B x
structure GoodS (S:SS):Prop where
 nd:S.L.Nodup
 lt: ∀x∈S.L,x<64
 ch: ∀k a,S.L[k]? =some a→S.B a=mM (S.L.drop (k+1))
 bb: ∀x,S.B x≤64
 tn:S.t≤S.n
def s0:SS:=⟨[],fun _=>0,0,0⟩
structure MV where
 push:Bool
 place:Nat
 looked:Bool
 top:Int
 tag:Nat
 over:Bool
def rV (p:Nat):MV:=⟨true,p,false,0,0,false⟩
structure pE (S:SS) (M:MV):Prop where
 pl:M.place<64
 tg:M.tag≤S.t
 lo: -1≤M.top∧M.top≤63
 po:M.looked=true→M.push=false→M.over=false→0≤M.top
 att:M.looked=true→M.tag=S.t→M.top=mO S.L
def vC (S:SS) (M:MV):SS×MV:=(⟨S.L,S.B,S.t,S.n+1⟩,⟨M.push,M.place,true,mO S.L,S.t, !M.push&&decide (mO S.L= -1)⟩)
def jD (S:SS) (M:MV):SS×MV:=
 if M.place∈S.L then (S,⟨M.push,M.place,false,M.top,M.tag,true⟩)
 else if M.tag=S.t then (⟨M.place::S.L,rP S.B M.place (qc M.top),S.t+1,S.n+1⟩,⟨M.push,M.place,false,M.top,M.tag,true⟩)
 else (⟨S.L,rP S.B M.place (qc M.top),S.t,S.n+1⟩,⟨M.push,M.place,false,M.top,M.tag,false⟩)
def jQ (S:SS) (M:MV):SS×MV:=
 if M.tag=S.t then (⟨S.L.tail,S.B,S.t+1,S.n+1⟩,⟨M.push,M.place,false,M.top,M.tag,true⟩)
 else (⟨S.L,S.B,S.t,S.n+1⟩,⟨M.push,M.place,false,M.top,M.tag,false⟩)
def ji (S:SS) (M:MV):SS×MV:=
 if M.over then (S,M) else if M.looked=false then vC S M else if M.push then jD S M else jQ S M
def Pn (M:MV):Int:=if M.push then (M.place:Int) else if M.over then M.top else-1
theorem oD: ∀(n:Nat) (acc:List Nat),acc.Nodup→(∀k∈acc,k<n)→acc.length≤n
 |0,acc,_,h=>by
  cases acc with
  |nil=>exact Nat.le_refl _
  |cons x t=>have:=h x (List.mem_cons_self ..);omega
 |n+1,acc,hn,h=>by
  have h1:=oD n (acc.erase n) (hn.erase n) (fun k hk=>by
   have h2:=(hn.mem_erase_iff).1 hk;have:=h k h2.2;omega)
  have h3:=List.length_erase (a:=n) (l:=acc);by_cases hm:n∈acc
  · rw [h3,if_pos hm] at h1;omega
  · rw [h3,if_neg hm] at h1;omega
theorem SC {L:List Nat} (h: ∀x∈L,x<64): -1≤mO L∧mO L≤63:=by
 cases L with
 |nil=>decide
 |cons a t=>have:=h a (by simp);simp only [mO];omega
theorem Sz {L:List Nat} (h: ∀x∈L,x<64):mM L≤64:=by
 cases L with
 |nil=>decide
 |cons a t=>have:=h a (by simp);simp only [mM];omega
theorem zZ (L:List Nat):qc (mO L)=mM L:=by
 cases L with
 |nil=>rfl
 |cons a t=>simp only [qc,mO,mM];omega
theorem NC {i:Int} (h:i≤63):qc i≤64:=by unfold qc;omega
theorem KL (L:List Nat):mO L=(mM L:Int)-1:=by
 cases L with
 |nil=>rfl
 |cons a t=>simp only [mO,mM];omega
theorem GoodS.zero:GoodS s0:=⟨List.nodup_nil,fun x h=>(by cases h),fun k a h=>(by simp [s0] at h),fun x=>Nat.zero_le _,Nat.le_refl _⟩
section
variable {S:SS} {M M2:MV}
theorem GoodS.len (h:GoodS S):S.L.length≤64:=oD 64 S.L h.nd h.lt
theorem GoodS.look (h:GoodS S) (M:MV):GoodS (vC S M).1:=⟨h.nd,h.lt,h.ch,h.bb,Nat.le_succ_of_le h.tn⟩
theorem TF {B:Nat→Nat} {p v:Nat} (h: ∀x,B x≤64) (hv:v≤64): ∀x,rP B p v x≤64:=fun x=>by
 unfold rP;split
 · exact hv
 · exact h x
theorem JB {B:Nat→Nat} {p v x:Nat} (h:x≠p):rP B p v x=B x:=if_neg h
theorem Ae {B:Nat→Nat} {p v:Nat}:rP B p v p=v:=if_pos rfl
theorem GoodS.put (h:GoodS S) (g:pE S M) (hl:M.looked=true):GoodS (jD S M).1:=by
 unfold jD;by_cases hp:M.place∈S.L
 · rw [if_pos hp];exact h
 · rw [if_neg hp]
   have hbb:=TF (p:=M.place) h.bb (NC g.lo.2);have hch: ∀k a,S.L[k]? =some a→rP S.B M.place (qc M.top) a=mM (S.L.drop (k+1)):=fun k a hk=>by
    rw [JB (fun e=>hp (by rw [←e];exact List.mem_of_getElem? hk))];exact h.ch k a hk
   by_cases ht:M.tag=S.t
   · rw [if_pos ht]
     refine ⟨List.nodup_cons.2 ⟨hp,h.nd⟩,fun x hx=> ?_,fun k a hk=> ?_,hbb,Nat.succ_le_succ h.tn⟩
     · rcases List.mem_cons.1 hx with rfl|hx
       · exact g.pl
       · exact h.lt x hx
     · cases k with
       |zero=>
        simp only [List.getElem?_cons_zero,Option.some.injEq] at hk;subst hk;show rP S.B M.place (qc M.top) M.place=_;rw [Ae,g.att hl ht,zZ];rfl
       |succ k=>
        simp only [List.getElem?_cons_succ] at hk;exact hch k a hk
   · rw [if_neg ht]
     exact ⟨h.nd,h.lt,hch,hbb,Nat.le_succ_of_le h.tn⟩
theorem GoodS.take (h:GoodS S) (M:MV):GoodS (jQ S M).1:=by
 unfold jQ;by_cases ht:M.tag=S.t
 · rw [if_pos ht]
   refine ⟨h.nd.tail,fun x hx=>h.lt x (List.mem_of_mem_tail hx),fun k a hk=> ?_,h.bb,Nat.succ_le_succ h.tn⟩;show S.B a=mM (S.L.tail.drop (k+1));rw [List.getElem?_tail] at hk;rw [h.ch (k+1) a hk,List.drop_tail]
 · rw [if_neg ht];exact ⟨h.nd,h.lt,h.ch,h.bb,Nat.le_succ_of_le h.tn⟩
theorem GoodS.step (h:GoodS S) (g:pE S M):GoodS (ji S M).1:=by
 unfold ji;by_cases h1:M.over=true
 · rw [if_pos h1];exact h
 · rw [if_neg h1]
   by_cases h2:M.looked=false
   · rw [if_pos h2];exact h.look M
   · rw [if_neg h2]
     by_cases h3:M.push=true
     · rw [if_pos h3];exact h.put g (by simpa using h2)
     · rw [if_neg h3];exact h.take M
theorem Ow (S:SS) (M:MV):((ji S M).1.t=S.t∧(ji S M).1.L=S.L)∨(ji S M).1.t=S.t+1:=by
 unfold ji vC jD jQ
 repeat' split
 all_goals simp
theorem pE.other (g2:pE S M2) (M:MV):pE (ji S M).1 M2:=by
 rcases Ow S M with ⟨e1,e2⟩|e1
 · exact ⟨g2.pl,by rw [e1];exact g2.tg,g2.lo,g2.po,fun hl ht=>by rw [e2];exact g2.att hl (by rw [←e1];exact ht)⟩
 · exact ⟨g2.pl,by rw [e1];exact Nat.le_succ_of_le g2.tg,g2.lo,g2.po,fun hl ht=>by have:=g2.tg;rw [e1] at ht;omega⟩
theorem pE.step (h:GoodS S) (g:pE S M):pE (ji S M).1 (ji S M).2:=by
 unfold ji;by_cases h1:M.over=true
 · rw [if_pos h1];exact g
 · rw [if_neg h1]
   by_cases h2:M.looked=false
   · rw [if_pos h2]
     have hb:=SC h.lt;refine ⟨g.pl,Nat.le_refl _,hb,fun _ hp ho=> ?_,fun _ _=>rfl⟩;simp only [vC] at hp ho⊢;rw [hp] at ho;simp only [Bool.not_false,Bool.true_and,decide_eq_false_iff_not] at ho;omega
   · rw [if_neg h2]
     by_cases h3:M.push=true
     · rw [if_pos h3]
       unfold jD
       repeat' split
       all_goals refine ⟨g.pl, ?_,g.lo,(fun hl=>by simp at hl),(fun hl=>by simp at hl)⟩
       · exact g.tg
       · exact Nat.le_succ_of_le g.tg
       · exact g.tg
     · rw [if_neg h3]
       unfold jQ;split;all_goals refine ⟨g.pl, ?_,g.lo,(fun hl=>by simp at hl),(fun hl=>by simp at hl)⟩
       · exact Nat.le_succ_of_le g.tg
       · exact g.tg
theorem Ih (S:SS) {p:Nat} (hp:p<64):pE S (rV p):=⟨hp,Nat.zero_le _,⟨show (-1:Int)≤0 by decide,show (0:Int)≤63 by decide⟩,(fun h=>by cases h),(fun h=>by cases h)⟩
theorem Wv (S:SS) (M:MV):S.n≤(ji S M).1.n∧(ji S M).1.n≤S.n+1:=by
 unfold ji vC jD jQ
 repeat' split
 all_goals simp
end
def JC (S:SS) (p:Nat):SS:=if p∈S.L then ⟨S.L,S.B,S.t,S.n+1⟩ else ⟨p::S.L,rP S.B p (mM S.L),S.t+1,S.n+2⟩
def iE (S:SS) (M:MV):Nat→SS×MV
 |0=>(S,M)
 |k+1=>ji (iE S M k).1 (iE S M k).2
theorem Pb (S:SS) (p:Nat):(iE S (rV p) 0).2.over=false∧(iE S (rV p) 1).2.over=false∧(iE S (rV p) 2).1=JC S p∧(iE S (rV p) 2).2.over=true∧Pn (iE S (rV p) 2).2=(p:Int):=by
 refine ⟨rfl,rfl, ?_, ?_, ?_⟩
 · simp only [iE,ji,vC,rV,jD,JC]
   by_cases h:p∈S.L
   · simp [h]
   · simp [h,zZ]
 · simp only [iE,ji,vC,rV,jD]
   by_cases h:p∈S.L
   · simp [h]
   · simp [h]
 · simp only [iE,ji,vC,rV,jD,Pn]
   by_cases h:p∈S.L
   · simp [h]
   · simp [h]
theorem zn {S:SS} {M:MV} (h:GoodS S) (g:pE S M): ∀k,GoodS (iE S M k).1∧pE (iE S M k).1 (iE S M k).2∧(iE S M k).1.n≤S.n+k
 |0=>⟨h,g,Nat.le_refl _⟩
 |k+1=>by
  obtain ⟨h1,h2,h3⟩:=zn h g k;have:=(Wv (iE S M k).1 (iE S M k).2).2;exact ⟨h1.step h2,h2.step h1,by show (ji _ _).1.n≤_;omega⟩
theorem GoodS.JC {S:SS} (h:GoodS S) {p:Nat} (hp:p<64):GoodS (JC S p):=by
 rw [←(Pb S p).2.2.1];exact (zn h (Ih S hp) 2).1
end Go.Proofs.YtpibbcnkgdmcbaaGreatDoor.bP
namespace Go.Proofs.YtpibbcnkgdmcbaaGreatDoor
open Go.RowKit bP
def SK (w:World) (s o:Nat) (S:SS):Prop:= ∃ty cs,aV w s ty cs∧cs[o]? =some (.int .u64 (mM S.L:Nat))∧cs[o+1]? =some (.int .u64 (S.t:Nat))∧cs[o+2]? =some (.int .i64 (S.n:Nat))∧ ∀x,x<64→cs[o+3+x]? =some (.int .u64 (S.B x:Nat))
def Yq (s o:Nat) (c i:Nat):Prop:=c=s∧o≤i∧i<o+67
theorem zG.spl {s o c i:Nat} (h:zG s o c i):Yq s o c i:=⟨h.1,by rcases h.2 with e|e|e<;>omega,by rcases h.2 with e|e|e<;>omega⟩
section
variable {w w':World} {s o:Nat} {S S':SS}
theorem SK.lt (h:SK w s o S):s<w.heap.size:=by obtain ⟨ty,cs,k,_⟩:=h;exact k.lt
theorem SK.cc (h:SK w s o S):CC w s o (mM S.L) S.t (S.n:Int):=by obtain ⟨ty,cs,k,e0,e1,e2,_⟩:=h;exact ⟨ty,cs,k,e0,e1,e2⟩
theorem SK.cell (h:SK w s o S) {x:Nat} (hx:x<64):w.cell? ⟨s,o+3+x,none⟩=some (.int .u64 (S.B x:Nat)):=by obtain ⟨ty,cs,k,_,_,_,e⟩:=h;rw [k.cell];exact e x hx
theorem SK.frozen (h:SK w s o S) (i:Nat):w.frozen? ⟨s,i,none⟩=false:=by obtain ⟨ty,cs,k,_⟩:=h;exact k.frozen i
theorem SK.upd {T:Nat→Prop} (h:SK w s o S) (u:aH T w w') (ht: ¬T s):SK w' s o S:=by obtain ⟨ty,cs,k,e⟩:=h;exact ⟨ty,cs,k.upd u ht,e⟩
theorem SK.grew (h:SK w s o S) (hb:Below w.heap.size w w'):SK w' s o S:=h.upd (ak hb) id
theorem SK.turn (h:SK w s o S) (c:CC w' s o (mM S'.L) S'.t (S'.n:Int)) (W:dA (fun _=>False) (zG s o) w w') (hB:S'.B=S.B):SK w' s o S':=by
 obtain ⟨ty,cs,k,e0,e1,e2,eb⟩:=h;obtain ⟨cs',k',hz,e'⟩:=W.blk s id ty cs k;obtain ⟨ty2,cs2,k2,f0,f1,f2⟩:=c;have:some (Obj.cells cs' ty (0,0))=some (Obj.cells cs2 ty2 (0,0)):=k'.symm.trans k2;injection this with this
 injection this with g1 g2 g3
 subst g1 g2;refine ⟨_,_,k',f0,f1,f2,fun x hx=> ?_⟩;rw [e' _ (fun hc=>by rcases hc.2 with e|e|e<;>omega),hB];exact eb x hx
theorem SK.put (h:SK w s o S) {p:Nat} (hp:p<64) (v:Nat) (V:Int) (hV:V=(v:Int)):SK (w.setCell ⟨s,o+3+p,none⟩ (.int .u64 V)) s o ⟨S.L,rP S.B p v,S.t,S.n⟩:=by
 subst hV;obtain ⟨ty,cs,k,e0,e1,e2,eb⟩:=h;refine ⟨ty,_,k.put (o+3+p) _, ?_, ?_, ?_,fun x hx=> ?_⟩
 · rw [Array.getElem?_setIfInBounds,if_neg (by omega)];exact e0
 · rw [Array.getElem?_setIfInBounds,if_neg (by omega)];exact e1
 · rw [Array.getElem?_setIfInBounds,if_neg (by omega)];exact e2
 · by_cases hxp:x=p
   · subst hxp
     obtain ⟨l,_⟩:=Array.getElem?_eq_some_iff.1 (eb x hx);rw [Array.getElem?_setIfInBounds_self_of_lt l];show _=some (Value.int .u64 ((rP S.B x v x:Nat):Int));rw [Ae]
   · rw [Array.getElem?_setIfInBounds,if_neg (by omega)]
     show _=some (Value.int .u64 ((rP S.B p v x:Nat):Int));rw [JB hxp];exact eb x hx
end
def Yw:Array Value:= #[.int .u64 0, .int .u64 0, .int .i64 0, .int .u64 0, .int .u64 0, .int .u64 0, .int .u64 0, .int .u64 0, .int .u64 0, .int .u64 0, .int .u64 0, .int .u64 0, .int .u64 0, .int .u64 0, .int .u64 0, .int .u64 0, .int .u64 0, .int .u64 0, .int .u64 0, .int .u64 0, .int .u64 0, .int .u64 0, .int .u64 0, .int .u64 0, .int .u64 0, .int .u64 0, .int .u64 0, .int .u64 0, .int .u64 0, .int .u64 0, .int .u64 0, .int .u64 0, .int .u64 0, .int .u64 0, .int .u64 0, .int .u64 0, .int .u64 0, .int .u64 0, .int .u64 0, .int .u64 0, .int .u64 0, .int .u64 0, .int .u64 0, .int .u64 0, .int .u64 0, .int .u64 0, .int .u64 0, .int .u64 0, .int .u64 0, .int .u64 0, .int .u64 0, .int .u64 0, .int .u64 0, .int .u64 0, .int .u64 0, .int .u64 0, .int .u64 0, .int .u64 0, .int .u64 0, .int .u64 0, .int .u64 0, .int .u64 0, .int .u64 0, .int .u64 0, .int .u64 0, .int .u64 0, .int .u64 0]
theorem aa7 (w:World): ∃W,w.alloc (.cells Yw 61)=W∧SK W w.heap.size 0 s0∧Below w.heap.size w W∧W.heap.size=w.heap.size+1:=by
 refine ⟨_,rfl,⟨61,_,aV.new w _ _,rfl,rfl,rfl,fun x hx=> ?_⟩,(Below.refl _ w).alloc (Nat.le_refl _) _,World.size_alloc _ _⟩;have e:Yw=(#[Value.int .u64 0,Value.int .u64 0,Value.int .i64 0]++Array.replicate 64 (Value.int .u64 0)):=rfl;refine (congrArg (fun a:Array Value=>a[0+3+x]?) e).trans ?_;show (#[Value.int .u64 0,Value.int .u64 0,Value.int .i64 0]++Array.replicate 64 (Value.int .u64 0))[0+3+x]? =_;rw [Array.getElem?_append_right (show 3≤0+3+x by omega),Array.getElem?_replicate];exact if_pos (show 0+3+x-3<64 by omega)
theorem DZ (w:World) {x:Nat} (hx:x≤64):Calls Tryz.prog 120 #[.int .u64 (x:Int)] w fun e w'=>e= .returned (.int .i64 ((x:Int)-1))∧w'=w:=by
 have h0:(0:Int)≤(x:Int):=by omega
 have h1:(x:Int)≤64:=by omega
 go_enter Tryz.func120,Tryz.ntmps120
 go_wp2;go_ret;exact ⟨rfl,rfl⟩
theorem Ew (w:World) {x:Nat} (hx:x<64):Calls Tryz.prog 121 #[.int .i64 (x:Int)] w fun e w'=>e= .returned (.bool true)∧w'=w:=by
 have t1:decide ((0:Int)≤(x:Int))=true:=decide_eq_true (by omega);have t2:decide ((x:Int)<64)=true:=decide_eq_true (by omega);go_enter Tryz.func121,Tryz.ntmps121
 go_wp2;go_ret;exact ⟨rfl,rfl⟩
theorem Hq (w:World) {i:Int} (hi:i<0∨64≤i):Calls Tryz.prog 121 #[.int .i64 i] w fun e w'=>e= .returned (.bool false)∧w'=w:=by
 by_cases h0:i<0
 · have t1:decide ((0:Int)≤i)=false:=decide_eq_false (by omega)
   clear hi h0;go_enter Tryz.func121,Tryz.ntmps121
   go_wp2;go_ret;exact ⟨rfl,rfl⟩
 · have t1:decide ((0:Int)≤i)=true:=decide_eq_true (by omega)
   have t2:decide (i<64)=false:=decide_eq_false (by omega);clear hi h0;go_enter Tryz.func121,Tryz.ntmps121
   go_wp2;go_ret;exact ⟨rfl,rfl⟩
abbrev zA (S:SS):Prop:=S.n≤999999999
theorem zA.ask {S:SS} (h:zA S):X_ (S.n:Int):=⟨by omega,by have:S.n≤999999999:=h;omega⟩
def nR (w:World) (b:Nat) (L:List Nat):Prop:= ∃cs,aV w b 221 cs∧ ∀x,x<64→cs[x]? =some (.bool (decide (x∈L)))
theorem nR.lt {w:World} {b:Nat} {L:List Nat} (h:nR w b L):b<w.heap.size:=by obtain ⟨cs,k,_⟩:=h;exact k.lt
theorem nR.upd {T:Nat→Prop} {w w':World} {b:Nat} {L:List Nat} (h:nR w b L) (u:aH T w w') (ht: ¬T b):nR w' b L:=by obtain ⟨cs,k,e⟩:=h;exact ⟨cs,k.upd u ht,e⟩
theorem nR.cell {w:World} {b:Nat} {L:List Nat} (h:nR w b L) {x:Nat} (hx:x<64) {v:Bool} (hv:decide (x∈L)=v):w.cell? ⟨b,x,none⟩=some (.bool v):=by obtain ⟨cs,k,e⟩:=h;rw [k.cell,e x hx,hv]
theorem nR.frozen {w:World} {b:Nat} {L:List Nat} (h:nR w b L) (i:Nat):w.frozen? ⟨b,i,none⟩=false:=by obtain ⟨cs,k,_⟩:=h;exact k.frozen i
theorem nR.put {w:World} {b:Nat} {L:List Nat} (h:nR w b L) {p:Nat} (hp:p<64) {L':List Nat} (hL: ∀x,x∈L'↔x=p∨x∈L):nR (w.setCell ⟨b,p,none⟩ (.bool true)) b L':=by
 obtain ⟨cs,k,e⟩:=h;refine ⟨_,k.put p _,fun x hx=> ?_⟩;by_cases hxp:x=p
 · subst hxp
   obtain ⟨l,_⟩:=Array.getElem?_eq_some_iff.1 (e x hx);rw [Array.getElem?_setIfInBounds_self_of_lt l,decide_eq_true ((hL x).2 (.inl rfl))]
 · rw [Array.getElem?_setIfInBounds,if_neg (by omega),e x hx]
   have:decide (x∈L')=decide (x∈L):=decide_eq_decide.2 ⟨fun h=>by rcases (hL x).1 h with e|e;exact absurd e hxp;exact e,fun h=>(hL x).2 (.inr h)⟩;rw [this]
theorem P7 (w:World) {s o:Nat} {S:SS} (h:SK w s o S) (g:GoodS S) (hm:zA S):
 Calls Tryz.prog 79 #[.pointer (some ⟨s,o,none⟩)] w fun e w'=>e= .returned (.tuple #[.int .i64 (mO S.L), .int .u64 (S.t:Int)])∧SK w' s o ⟨S.L,S.B,S.t,S.n+1⟩∧dA (fun _=>False) (zG s o) w w':=by
 have C:=Lib.hid (M_ w h.cc hm.ask);have hp:=fun w'=>DZ w' (Sz g.lt);rw [KL];obtain ⟨x,hx⟩: ∃x,mM S.L=x:=⟨_,rfl⟩;rw [hx] at C hp⊢;have HX:=Lib.hid hx;have H:=Lib.hid h;have HP:=Lib.hid hp;obtain ⟨t,ht⟩: ∃t,S.t=t:=⟨_,rfl⟩;rw [ht] at C⊢;have HT:=Lib.hid ht;clear h g hm hx ht hp;go_enter Tryz.func79,Tryz.ntmps79
 go_wp2_with fail
 refine C.out.mono ?_;rintro e w1 ⟨rfl,k1,k2⟩;have K:=Lib.hid (And.intro k1 k2);clear k1 k2;go_wp2_with fail
 refine (HP.out _).mono ?_;rintro e w2 ⟨rfl,rfl⟩;go_wp2
 go_ret2
 exact ⟨rfl,H.out.turn (by rw [HX.out];exact HT.out▸K.out.1) K.out.2 rfl,K.out.2⟩
end Go.Proofs.YtpibbcnkgdmcbaaGreatDoor
namespace Go.Proofs.YtpibbcnkgdmcbaaGreatDoor
open Go.RowKit bP
def toI (L:List Nat):List Int:=L.map Int.ofNat
def lenOf:Value→Nat
 | .slice _ n _=>n
 |_=>0
end Go.Proofs.YtpibbcnkgdmcbaaGreatDoor
namespace Go.Proofs.YtpibbcnkgdmcbaaGreatDoor
open Go.RowKit bP
theorem Vec.ab0 {w:World} {a:Option Addr} {n c:Nat} {l:List Int} (h:Seq Elem.ints w (.slice a n c) l) {t:Nat} (ht:t<l.length): ∃b off y,a=some ⟨b,off,none⟩∧l[t]? =some y∧y∈l∧w.cell? ⟨b,off+t,none⟩=some (.int .i64 y):=by
 have hy:l[t]? =some l[t]:=List.getElem?_eq_getElem ht;obtain ⟨b,off,ea,hc⟩:=h.elem hy;have h0:=hc 0 (.int .i64 l[t]) rfl;exact ⟨b,off,l[t],ea,hy,List.mem_of_getElem? hy,by simpa [Elem.ints] using h0⟩
def aai (l:List Int) (x:Int) (w:World) (i:Value) (wr:World):Prop:= ∃t:Nat,t≤l.length∧i= .int .i64 (t:Int)∧(∀y∈l.take t,x≠y)∧w=wr
theorem Dj {l:List Int} {t:Nat} {o:Int} {φ:Int→Prop} (h: ∀x∈l.take t,φ x) (ho:l[t]? =some o) (hφ:φ o): ∀x∈l.take (t+1),φ x:=fun x hx=>by
 rw [List.take_add_one,ho] at hx;rcases List.mem_append.1 hx with hx|hx
 · exact h x hx
 · rw [List.mem_singleton.1 hx];exact hφ
theorem uz (w:World) {v:Value} {l:List Int} (h:Vec Elem.ints w v l) {x:Int}:
 Calls Tryz.prog 166 #[v, .int .i64 x] w fun e w'=> ∃k:Int,e= .returned (.int .i64 k)∧decide (0≤k)=decide (x∈l)∧w'=w:=by
 obtain ⟨a,c,rfl,h1,h2⟩:=h.slice';obtain ⟨n,hn⟩: ∃n,l.length=n:=⟨_,rfl⟩;rw [hn] at h h1⊢;have HN:=Lib.hid hn;have H:=Lib.hid h;have I0:=Lib.hid (show aai l x w (.int .i64 0) w from ⟨0,Nat.zero_le _,rfl,by simp,rfl⟩);clear h hn;go_enter Tryz.func166,Tryz.ntmps166
 go_wp2;go_loopw [8] (fun i wr=>aai l x w i wr) (fun i _=>n-(intOf i).toNat)
 case atStart=>exact I0.out
 case round=>
  clear I0;obtain ⟨t,ht,rfl,hno,rfl⟩:=hrel;rw [HN.out] at ht;have NO:=Lib.hid hno;by_cases htn:t<n
  · obtain ⟨b3,LG,y,ea,hy,hym,d0⟩:=Vec.ab0 H.out.seq (t:=t) (by rw [HN.out];exact htn)
    subst ea;have HY:=Lib.hid hy;have HM:=Lib.hid hym;have t2:decide ((t:Int)<(n:Int))=true:=decide_eq_true (by omega);have t2':decide (t<n)=true:=decide_eq_true htn;have q3:(0:Int)≤(t:Int):=by omega
    have q4:(t:Int)<(n:Int):=by omega
    clear hno hy hym;by_cases hxy:x=y
    · subst hxy
      have t3:((x:Int)==x)=true:=by simp
      go_wp2;go_ret;exact ⟨_,rfl,by rw [decide_eq_true HM.out];exact decide_eq_true (by omega),rfl⟩
    · have t3:((x:Int)==y)=false:=by rw [beq_eq_false_iff_ne];exact hxy
      have HXY:=Lib.hid hxy;clear hxy;go_wp2;go_roundw
      case rel=>exact ⟨t+1,by rw [HN.out];omega,by go_num,Dj NO.out HY.out HXY.out,rfl⟩
      case measure=>simp [intOf];omega
  · obtain rfl:t=n:=by omega
    have t2:decide ((t:Int)<(t:Int))=false:=decide_eq_false (by omega);clear hno;have hni:x∉l:=fun hm=>NO.out x (by rw [←HN.out,List.take_length];exact hm) rfl;have HNI:=Lib.hid hni;clear hni;go_wp2;go_ret;exact ⟨_,rfl,by rw [decide_eq_false HNI.out];rfl,rfl⟩
theorem nD (w:World) {v:Value} {l:List Int} (h:Vec Elem.ints w v l) {x:Int}:
 Calls Tryz.prog 137 #[v, .int .i64 x] w fun e w'=>e= .returned (.bool (decide (x∈l)))∧w'=w:=by
 have I:=Lib.hid (uz w h (x:=x));obtain ⟨y,hy⟩: ∃y,decide (x∈l)=y:=⟨_,rfl⟩;rw [hy] at I⊢;clear h hy;go_enter Tryz.func137,Tryz.ntmps137
 go_wp2_with fail
 refine I.out.mono ?_;rintro e w1 ⟨k,rfl,hk,rfl⟩;go_wp2;go_ret;exact ⟨rfl,rfl⟩
theorem Xy (w:World) {s o:Nat} {S:SS} (h:SK w s o S) (g:S.t≤S.n) (hm:zA S) {t v:Nat} (ht:t≤S.t) (hv:v≤64):
 Calls Tryz.prog 122 #[.pointer (some ⟨s,o,none⟩), .int .u64 (t:Int), .int .u64 (v:Int)] w fun e w'=>e= .returned (.bool (decide (t=S.t)))∧(∀S':SS,S'.B=S.B→mM S'.L=(if t=S.t then v else mM S.L)→S'.t=(if t=S.t then S.t+1 else S.t)→S'.n=S.n+1→SK w' s o S')∧dA (fun _=>False) (Yq s o) w w':=by
 have hm':S.n≤999999999:=hm;refine (Q0 w h.cc hm.ask (show S.t≤1000000000 by omega) t v (by omega) (by omega)).mono ?_;rintro e w1 ⟨h1,h2,h3⟩;refine ⟨h1,fun S' e1 e2 e3 e4=>h.turn (by rw [e2,e3,e4];exact h2) h3 e1,h3.mono (fun _ h=>h) (fun b i hc=> .inr hc.spl)⟩
theorem aaA (w:World) {s o:Nat} {p i:Int} {t:Nat} (hp:p<0∨64≤p):
 Calls Tryz.prog 97 #[.pointer (some ⟨s,o,none⟩), .int .i64 p, .int .i64 i, .int .u64 (t:Int)] w fun e w'=>e= .returned (.tuple #[.bool false, .int .i64 2])∧w'=w:=by
 have P:=Lib.hid (fun w'=>Hq w' hp);clear hp;go_enter Tryz.func97,Tryz.ntmps97
 go_wp2_with fail
 refine (P.out _).mono ?_;rintro e w1 ⟨rfl,rfl⟩;go_wp2
 go_ret2
 exact ⟨rfl,rfl⟩
def adE (S:SS) (p:Nat) (i:Int) (t:Nat):SS:=if t=S.t then ⟨p::S.L,rP S.B p (qc i),S.t+1,S.n+1⟩ else ⟨S.L,rP S.B p (qc i),S.t,S.n+1⟩
def qd (S:SS) (t:Nat):SS:=if t=S.t then ⟨S.L.tail,S.B,S.t+1,S.n+1⟩ else ⟨S.L,S.B,S.t,S.n+1⟩
theorem rE (w:World) {s o:Nat} {S:SS} (h:SK w s o S) (g:GoodS S) (hm:zA S) {q:Nat} (hq:q<64) {t:Nat} (ht:t≤S.t) (hat:t=S.t→mO S.L=(q:Int)):
 Calls Tryz.prog 80 #[.pointer (some ⟨s,o,none⟩), .int .i64 (q:Int), .int .u64 (t:Int)] w fun e w'=>
  e= .returned (.tuple #[.bool (decide (t=S.t)), .int .i64 0])∧SK w' s o (qd S t)∧dA (fun _=>False) (Yq s o) w w':=by
 have P:=Lib.hid (fun w'=>Ew w' hq);have cl:=h.cell hq;have H:=Lib.hid h;have e2:mM (qd S t).L=(if t=S.t then S.B q else mM S.L):=by
  unfold qd;split
  · rename_i e
    have:=hat e;cases hl:S.L with
    |nil=>rw [hl] at this;simp only [mO] at this;omega
    |cons a l=>
     rw [hl] at this;simp only [mO] at this;have ea:a=q:=by omega
     have:=g.ch 0 a (by rw [hl];rfl);rw [hl] at this;rw [←ea,this];rfl
  · rfl
 have e1:(qd S t).B=S.B:=by unfold qd;split<;>rfl
 have e3:(qd S t).t=(if t=S.t then S.t+1 else S.t):=by unfold qd;split<;>rfl
 have e4:(qd S t).n=S.n+1:=by unfold qd;split<;>rfl
 obtain ⟨v,hv⟩: ∃v,S.B q=v:=⟨_,rfl⟩;have CS: ∀(w':World),SK w' s o S→Calls Tryz.prog 122 #[.pointer (some ⟨s,o,none⟩), .int .u64 (t:Int), .int .u64 (v:Int)] w' fun e w2=>e= .returned (.bool (decide (t=S.t)))∧SK w2 s o (qd S t)∧w2.cell? ⟨s,o+3+q,none⟩=some (.int .u64 (v:Int))∧dA (fun _=>False) (Yq s o) w' w2:=fun w' h=>by
  rw [←hv];refine (Xy w' h g.tn hm ht (g.bb q)).mono ?_;rintro e w2 ⟨k1,k2,k3⟩;have k4:=k2 _ e1 e2 e3 e4;have k5:=k4.cell hq;rw [e1] at k5;exact ⟨k1,k4,k5,k3⟩
 have CS:=Lib.hid CS;rw [hv] at cl;have q1:(0:Int)≤(q:Int):=by omega
 have q2:(q:Int)<64:=by omega
 clear h g hm ht hat e1 e2 e3 e4 hv;go_enter Tryz.func80,Tryz.ntmps80
 go_wp2_with fail
 refine (P.out _).mono ?_;rintro e w1 ⟨rfl,k⟩;obtain rfl:=k.symm;clear k;go_wp2;go_region_held3 (fun w'=>w'.cell? ⟨s,o+3+q,none⟩=some (.int .u64 (v:Int))) (first|go_keep|exact cl) (first|(go_at_call 122;(first|(with_reducible refine (CS.out _ H.out).mono ?_)|(refine (CS.out _ (show SK w.drew s o _ from H.out)).mono ?_));rintro e w7 ⟨rfl,h7,c7,u7⟩;have cl:=c7;have S7:=Lib.hid h7;have U7:=Lib.hid u7;clear h7 u7 c7))
 go_wp2
 go_ret2
 exact ⟨rfl,S7.out,((dA.refl _ _ w).drewN 1).trans U7.out⟩
end Go.Proofs.YtpibbcnkgdmcbaaGreatDoor
