/- CallsI: texts of layers below, joined (CallNew CallsG). -/
import Derived.Test.YtpibbcnkgdmcbaaGreatDoorCallsB
import Derived.Test.YtpibbcnkgdmcbaaGreatDoorCallsF
set_option linter.unusedVariables false
set_option maxRecDepth 100000
set_option maxHeartbeats 4000000
namespace Go.Proofs.YtpibbcnkgdmcbaaGreatDoor
open Go.RowKit aC aF aG aI au aD aB aA bf
def Nv (w:World) (s p q:Nat) (hb:Nat→Nat) (k:Nat):Prop:=
 ∃cs,aV w s 68 cs∧cs.size=205∧cs[0]? =some (.pointer (some ⟨p,0,none⟩))∧cs[1]? =some (.pointer (some ⟨q,0,none⟩))∧
  (cs[2]? =some (.int .u64 0)∧cs[3]? =some (.int .u64 0)∧cs[4]? =some (.int .i64 0)∧ ∀x,x<64→cs[5+x]? =some (.int .u64 0))∧
  (∀t,t<k→cs[69+t]? =some (.pointer (some ⟨hb t,0,none⟩)))∧(∀i,i<64→cs[77+i]? =some (.int .i64 0))∧ ∀i,i<64→cs[141+i]? =some (.pointer none)
theorem Bj:Tryz.zeroCells68= #[.pointer none, .pointer none, .int .u64 0, .int .u64 0, .int .i64 0]++(Array.replicate 64 (Value.int .u64 0)++(Array.replicate 8 (Value.pointer none)++(Array.replicate 64 (Value.int .i64 0)++Array.replicate 64 (Value.pointer none)))):=by kernel_rfl
theorem Gt {α:Type} {n i:Nat} {x:α} (h:i<n):(Array.replicate n x)[i]? =some x:=by rw [Array.getElem?_replicate,if_pos h]
theorem vP {α:Type} {a b:Array α} {n i:Nat} (h:a.size=n):(a++b)[n+i]? =b[i]? :=by
 rw [Array.getElem?_append,if_neg (by omega)]
 congr 1;omega
theorem VU {α:Type} {a b:Array α} {n i:Nat} (h:a.size=n) (hi:i<n):(a++b)[i]? =a[i]? :=by rw [Array.getElem?_append,if_pos (by omega)]
theorem SV (w:World) (p q:Nat):Nv (w.alloc (.cells ((Tryz.zeroCells68.setIfInBounds 0 (.pointer (some ⟨p,0,none⟩))).setIfInBounds 1 (.pointer (some ⟨q,0,none⟩))) 68)) w.heap.size p q (fun _=>0) 0:=by
 have hs:Tryz.zeroCells68.size=205:=by kernel_rfl
 refine ⟨_,aV.new w _ _,by rw [Array.size_setIfInBounds,Array.size_setIfInBounds];exact hs, ?_, ?_,⟨?_, ?_, ?_,fun x hx=> ?_⟩,fun t ht=>absurd ht (Nat.not_lt_zero _),fun i hi=> ?_,fun i hi=> ?_⟩
 · rw [Array.getElem?_setIfInBounds_ne (by decide)];exact Array.getElem?_setIfInBounds_self_of_lt (by omega)
 · exact Array.getElem?_setIfInBounds_self_of_lt (by rw [Array.size_setIfInBounds];omega)
 · rw [Array.getElem?_setIfInBounds_ne (by decide),Array.getElem?_setIfInBounds_ne (by decide)];kernel_rfl
 · rw [Array.getElem?_setIfInBounds_ne (by decide),Array.getElem?_setIfInBounds_ne (by decide)];kernel_rfl
 · rw [Array.getElem?_setIfInBounds_ne (by decide),Array.getElem?_setIfInBounds_ne (by decide)];kernel_rfl
 · rw [Array.getElem?_setIfInBounds_ne (by omega),Array.getElem?_setIfInBounds_ne (by omega),Bj,vP (n:=5) rfl,VU (n:=64) (by simp) hx]
   exact Gt hx
 · rw [Array.getElem?_setIfInBounds_ne (by omega),Array.getElem?_setIfInBounds_ne (by omega),Bj,show 77+i=5+(64+(8+i)) by omega,vP (n:=5) rfl,vP (n:=64) (by simp),vP (n:=8) (by simp),VU (n:=64) (by simp) hi]
   exact Gt hi
 · rw [Array.getElem?_setIfInBounds_ne (by omega),Array.getElem?_setIfInBounds_ne (by omega),Bj,show 141+i=5+(64+(8+(64+i))) by omega,vP (n:=5) rfl,vP (n:=64) (by simp),vP (n:=8) (by simp),vP (n:=64) (by simp)]
   exact Gt hi
section
variable {w0 w w' ws:World} {C:fH w0} {K:kW w0 C} {s p q g k h:Nat} {hb:Nat→Nat} {own O':Nat→Prop} {O:Nat→Nat→Prop} {L:List Nat} {A:St} {T:Nat→Prop}
theorem Nv.upd (h:Nv w s p q hb k) (u:aH T w w') (ht: ¬T s):Nv w' s p q hb k:=by obtain ⟨cs,k,e⟩:=h;exact ⟨cs,k.upd u ht,e⟩
theorem Nv.cell (h:Nv w s p q hb k) {t:Nat} (ht:t<8): ∃y,w.cell? ⟨s,69+t,none⟩=some y:=by
 obtain ⟨cs,b,e,_⟩:=h;exact ⟨cs[69+t],by rw [b.cell];exact Array.getElem?_eq_getElem (by omega)⟩
theorem Nv.frozen (h:Nv w s p q hb k) (i:Nat):w.frozen? ⟨s,i,none⟩=false:=by obtain ⟨cs,k,_⟩:=h;exact k.frozen i
theorem Nv.put (z:Nv w s p q hb k) (hk:k<8):Nv (w.setCell ⟨s,69+k,none⟩ (.pointer (some ⟨h,0,none⟩))) s p q (fun u=>if u=k then h else hb u) (k+1):=by
 obtain ⟨cs,b,e,e0,e1,⟨a0,a1,a2,a3⟩,e3,e4,e5⟩:=z;refine ⟨_,b.put (69+k) _,by simpa using e, ?_, ?_,⟨?_, ?_, ?_,fun x hx=> ?_⟩,fun t ht=> ?_,fun i hi=> ?_,fun i hi=> ?_⟩
 · rw [Array.getElem?_setIfInBounds_ne (by omega)];exact e0
 · rw [Array.getElem?_setIfInBounds_ne (by omega)];exact e1
 · rw [Array.getElem?_setIfInBounds_ne (by omega)];exact a0
 · rw [Array.getElem?_setIfInBounds_ne (by omega)];exact a1
 · rw [Array.getElem?_setIfInBounds_ne (by omega)];exact a2
 · rw [Array.getElem?_setIfInBounds_ne (by omega)];exact a3 x hx
 · by_cases et:t=k
   · subst et
     rw [Array.getElem?_setIfInBounds_self_of_lt (by omega)];simp
   · rw [Array.getElem?_setIfInBounds_ne (by omega)];simp only [if_neg et];exact e3 t (by omega)
 · rw [Array.getElem?_setIfInBounds_ne (by omega)];exact e4 i hi
 · rw [Array.getElem?_setIfInBounds_ne (by omega)];exact e5 i hi
structure FY {w0:World} (C:fH w0) (K:kW w0 C) (ws:World) (s p q g:Nat) (own:Nat→Prop) (L:List Nat) (A:St) (hb:Nat→Nat) (O:Nat→Nat→Prop) (k:Nat) (w:World):Prop where
 cs:Nv w s p q hb k
 env:Env C w p g q own L A []
 hp: ∀t,t<k→K.Hp w (hb t) (O t) (t+1) p q [] (fun _=>q0)
 lo: ∀t,t<k→ ∀x,O t x→s<x
 two: ∀t u,t<k→u<k→t≠u→ ∀x,O t x→ ¬O u x
 bl:Below ws.heap.size ws w
 far:ws.heap.size≤s∧ ∀x,EO p g own [] x→ws.heap.size≤x∧x<s
theorem FY.next (z:FY C K ws s p q g own L A hb O k w) (hk:k<8) (hw0:w0.heap.size≤ws.heap.size) (hp:K.Hp w' h O' (k+1) p q [] (fun _=>q0)) (hO: ∀x,O' x→w.heap.size≤x) (hb2:Below w.heap.size w w'):
 FY C K ws s p q g own L A (fun u=>if u=k then h else hb u) (fun u=>if u=k then O' else O u) (k+1) (w'.setCell ⟨s,69+k,none⟩ (.pointer (some ⟨h,0,none⟩))):=by
 have hs:s<w.heap.size:=by obtain ⟨cs,b,_⟩:=z.cs;exact b.lt
 have u1:aH (fun b=>b=s) w' (w'.setCell ⟨s,69+k,none⟩ (.pointer (some ⟨h,0,none⟩))):=jk w' s _ _;refine ⟨(z.cs.upd (ak hb2) fun x=>x.elim).put hk,(z.env.grew hb2).upd u1 fun x hx he=> ?_,fun t ht=> ?_,fun t ht x hx=> ?_,fun t u ht hu hne x hx hy=> ?_, ?_,z.far⟩
 · have:=(z.far.2 x he).2;omega
 · by_cases e:t=k
   · subst e
     simp only [if_pos];exact K.upd hp u1 fun x hx ho=>by have:=hO x ho;omega
   · simp only [if_neg e]
     refine K.upd (K.upd (z.hp t (by omega)) (ak hb2) fun _ x=>x.elim) u1 fun x hx ho=> ?_;have:=z.lo t (by omega) x ho;omega
 · by_cases e:t=k
   · simp only [if_pos e] at hx;have:=hO x hx;omega
   · simp only [if_neg e] at hx;exact z.lo t (by omega) x hx
 · by_cases e:t=k
   · simp only [if_pos e] at hx
     have h2:u≠k:=fun h=>hne (e.trans h.symm);simp only [if_neg h2] at hy;have h3:=(K.num (z.hp u (by omega))).2.1 x hy;have:=hO x hx;omega
   · simp only [if_neg e] at hx
     have h3:=(K.num (z.hp t (by omega))).2.1 x hx;by_cases e2:u=k
     · simp only [if_pos e2] at hy;have:=hO x hy;omega
     · simp only [if_neg e2] at hy;exact z.two t u (by omega) (by omega) hne x hx hy
 · have h1:=ah z.bl z.bl.size hb2
   exact h1.trans (u1.below (fun x hx=>by have:=z.far.1;omega) h1.size)
theorem FY.grew (z:FY C K ws s p q g own L A hb O k w) (h:Below w.heap.size w w'):FY C K ws s p q g own L A hb O k w':=
 ⟨z.cs.upd (ak h) fun x=>x,z.env.grew h,fun t ht=>K.upd (z.hp t ht) (ak h) fun _ x=>x.elim,z.lo,z.two,ah z.bl z.bl.size h,z.far⟩
theorem FY.drew (z:FY C K ws s p q g own L A hb O k w):FY C K ws s p q g own L A hb O k w.drew:=z.grew (Below.refl _ _).drew
theorem FY.new (z:FY C K ws s p q g own L A hb O k w) (hk:k<8) (hw:Below w0.heap.size w0 ws) (w':World) (h:Below w.heap.size w w'):
 Calls Tryz.prog 17 #[.pointer (some ⟨p,0,none⟩), .pointer (some ⟨q,0,none⟩), .int .u64 ((k+1:Nat):Int)] w' fun e w5=> ∃h,e= .returned (.tuple #[.pointer (some ⟨h,0,none⟩), .int .i64 0])∧(∃y,w5.cell? ⟨s,69+k,none⟩=some y)∧w5.frozen? ⟨s,69+k,none⟩=false∧ ∃hb' O',FY C K ws s p q g own L A hb' O' (k+1) (w5.setCell ⟨s,69+k,none⟩ (.pointer (some ⟨h,0,none⟩))):=by
 have hbw:=ah (ah hw hw.size z.bl) (Nat.le_trans hw.size z.bl.size) h;refine (K.new w' hbw (p:=p) (q:=q) (id:=k+1) (by omega) (by omega)).mono ?_;rintro e w5 ⟨h5,O5,rfl,k1,k2,k3⟩;have z':=(z.grew h);have zs:=z'.cs.upd (ak k3) fun x=>x;exact ⟨h5,rfl,zs.cell hk,zs.frozen _,_,_,z'.next hk hw.size k1 k2 k3⟩
def NwR {w0:World} (C:fH w0) (K:kW w0 C) (ws:World) (s p q g:Nat) (own:Nat→Prop) (L:List Nat) (A:St) (i:Value) (w:World):Prop:= ∃(k:Nat) (hb:Nat→Nat) (O:Nat→Nat→Prop),i= .int .i64 (k:Int)∧k≤8∧FY C K ws s p q g own L A hb O k w
def nO (A:St):SY:=⟨A,fun _=>h0, [],bP.s0,fun _=>0,fun _=>none⟩
theorem FY.done {S:Nat→Prop} (z:FY C K ws s p q g own L A hb O 8 w) (hw:Below w0.heap.size w0 ws) (hS: ∀k,S k→k<ws.heap.size) (hlo: ∀k,S k→w0.heap.size≤k):OS C K s p q hb (nO A) L S w:=by
 have hO: ∀t,t<8→ ∀x,O t x→s<x:=fun t ht x hx=>z.lo t ht x hx;have hE: ∀x,EO p g own (cu (fun _=>([]:List SB)) []) x→EO p g own [] x:=fun x hx=>hx;refine ⟨⟨g,own,O,fun _=> [], [],⟨?_,z.env,fun t ht=>z.hp t ht,fun t ht=>rfl,rfl,fun t ht=>aO.zero,fun t ht x hx he=> ?_,fun t u ht hu=>z.two t u ht hu,⟨fun he=> ?_,fun t ht hx=> ?_⟩,fun b hb=>(by cases hb),fun i hi=>Nat.zero_le _,fun i hi x hx=>(by cases hx),fun x hx=> ?_⟩,fun x hx hs=> ?_⟩,ah hw hw.size z.bl,fun x hx=> ?_,hlo⟩
 · obtain ⟨cs,b,e,e0,e1,⟨a0,a1,a2,a3⟩,e3,e4,e5⟩:=z.cs
   exact ⟨cs,b,e0,e1,⟨a0,a1,a2,a3⟩,e3,e4,e5⟩
 · have:=(z.far.2 x (hE x he)).2;have:=hO t ht x hx;omega
 · have:=(z.far.2 s (hE s he)).2;omega
 · have:=hO t ht s hx;omega
 · have h1:=hw.size
   rcases hx with rfl|hx|⟨t,ht,hx⟩
   · have:=z.far.1;omega
   · have:=(z.far.2 x (hE x hx)).1;omega
   · have:=hO t ht x hx;have:=z.far.1;omega
 · have h2:=hS x hs
   rcases hx with rfl|hx|⟨t,ht,hx⟩
   · have:=z.far.1;omega
   · have:=(z.far.2 x (hE x hx)).1;omega
   · have:=hO t ht x hx;have:=z.far.1;omega
 · have:=hS x hx;have:=z.bl.size;omega
theorem UE {L:List Nat} {A0:St} (hm:bC w p g L) (ha:bL w q own A) (hl:A.S*16384=L.length) (hn: ∀k,own k→k≠p∧k≠g):Env C w p g q own L A []:=
 ⟨⟨hm,fun b hb=>(by cases hb),List.Pairwise.nil,List.nodup_nil⟩,ha,hl,fun b hb=>(by cases hb),fun k hk=>⟨(hn k hk).1,(hn k hk).2,fun b hb=>(by cases hb)⟩⟩
theorem Oj (hw:Below w0.heap.size w0 w) {n l:Nat} (h1:2≤n) (h2:n≤64) (h3:1≤l) (h4:l≤n) {S:Nat→Prop} (hS: ∀k,S k→k<w.heap.size) (hlo: ∀k,S k→w0.heap.size≤k):
 Calls Tryz.prog 5 #[.int .i64 (n:Int), .int .i64 (l:Int)] w fun e w'=> ∃s p q hb L,e= .returned (.tuple #[.pointer (some ⟨s,0,none⟩), .int .i64 0])∧OS C K s p q hb (nO (reserve ⟨n,l, [], [],0⟩ 1).2.2) L S w'∧L.length=n*16384∧Below w.heap.size w w':=by
 have t1:decide ((n:Int)<2)=false:=decide_eq_false (by omega);have t2:decide ((64:Int)<(n:Int))=false:=decide_eq_false (by omega);have t3:decide ((l:Int)<1)=false:=decide_eq_false (by omega);have t4:decide (n<l)=false:=decide_eq_false (by omega);obtain ⟨N,hN⟩: ∃N,n*16384=N:=⟨_,rfl⟩;have wS:IntKind.u64.wrap (n:Int)=(n:Int):=IntWalk.u64_in _ ⟨by omega,by omega⟩;have eN:(n:Int)*16384=(N:Int):=by omega
 have wN:IntKind.u64.wrap (N:Int)=(N:Int):=IntWalk.u64_in _ ⟨by omega,by omega⟩;have HM:=Lib.hid (WL N (by omega) (by omega) (by omega) w);have HA:=Lib.hid (fun (w:World)=>LW n l (by omega) h2 h4 (Below.refl w.heap.size w));have HW:=Lib.hid hw;have HN:=Lib.hid hN;have HS:=Lib.hid hS;have HLO:=Lib.hid hlo;rw [hN];clear h1 h2 h3 h4 hw hN hS hlo;obtain ⟨rv,Xd⟩: ∃rv,reserve ⟨n,l, [], [],0⟩ 1=rv:=⟨_,rfl⟩;have hSz:rv.2.2.S=n:=by rw [←Xd];exact (mU _ _).1
 have HR:=Lib.hid Xd;have HZ:=Lib.hid hSz;rw [Xd];clear Xd hSz;go_enter Tryz.func5,Tryz.ntmps5
 go_wp2_with fail
 refine HM.out.mono ?_;rintro e w1 ⟨p,g,L,rfl,hm,hl,fp,fg,b1⟩;have M1:=Lib.hid (And.intro hm (And.intro hl (And.intro fp (And.intro fg b1))));clear hm hl fp fg b1;go_wp2_with fail
 refine (HA.out w1).mono ?_;rintro e w2 ⟨q,rfl,own,ha,ho,b2⟩;have A1:=Lib.hid (And.intro ha (And.intro ho b2));clear ha ho b2;go_wp2_with fail
 have RS:=jC A1.out.1 1 (show (0:Nat)≤1000000000000 by omega);rw [HR.out] at RS;refine RS.mono ?_;rintro e w3 ⟨rfl,⟨own',ha,ho⟩,hu⟩;have b13:Below w1.heap.size w1 w3:=A1.out.2.2.trans (hu.below A1.out.2.1 A1.out.2.2.size);have hown: ∀k,own' k→w1.heap.size≤k:=fun k hk=>(ho k hk).elim (A1.out.2.1 k) fun x=>Nat.le_trans A1.out.2.2.size x;have m3:bC w3 p g L:=M1.out.1.upd (ak b13) (fun x=>x) (fun x=>x);have hp3:=M1.out.1.head.lt;have hg3:=M1.out.1.row.lt;have E3:Env C w3 p g q own' L rv.2.2 []:=UE (A0:=rv.2.2) m3 ha (by rw [HZ.out,M1.out.2.1];exact HN.out) fun k hk=>⟨fun e=>by have:=hown k hk;omega,fun e=>by have:=hown k hk;omega⟩;have hb3:Below w3.heap.size w3 (w3.alloc (.cells ((Tryz.zeroCells68.setIfInBounds 0 (.pointer (some ⟨p,0,none⟩))).setIfInBounds 1 (.pointer (some ⟨q,0,none⟩))) 68)):=(Below.refl _ _).alloc (Nat.le_refl _) _;have hbw:Below w.heap.size w w3:=ah M1.out.2.2.2.2 M1.out.2.2.2.2.size b13;have Mj: ∀x,EO p g own' [] x→w.heap.size≤x∧x<w3.heap.size:=fun x hx=>by
  refine ⟨?_,E3.lt hx⟩;rcases hx with h|h|h|⟨b,hb,_⟩
  · rw [h];exact M1.out.2.2.1
  · rw [h];exact M1.out.2.2.2.1
  · have:=hown x h;have:=M1.out.2.2.2.2.size;omega
  · cases hb
 have hsy:=SV w3 p q;have N0:=Lib.hid (show FY C K w w3.heap.size p q g own' L rv.2.2 (fun _=>0) (fun _ _=>False) 0 _ from ⟨hsy,E3.grew hb3,fun t ht=>absurd ht (Nat.not_lt_zero _),fun t ht=>absurd ht (Nat.not_lt_zero _),fun t u ht=>absurd ht (Nat.not_lt_zero _),ah hbw hbw.size hb3,hbw.size,Mj⟩);have HL:=Lib.hid M1.out.2.1;clear ha ho hu b13 hown m3 hp3 hg3 E3 hb3 hbw M1 A1 RS Mj hsy;go_wp2;go_loopw [47] (fun i wr=>NwR C K w w3.heap.size p q g own' L rv.2.2 i wr) (fun i _=>8-(intOf i).toNat)
 case atStart=>exact ⟨0,_,_,rfl,by omega,N0.out⟩
 case round=>
  clear N0;obtain ⟨k,hb,O,rfl,hk,hn⟩:=hrel;have NK:=Lib.hid hn;by_cases VK:k<8
  · have t5:decide ((k:Int)<8)=true:=decide_eq_true (by omega)
    have q1:(0:Int)≤(k:Int):=by omega
    have q2:(k:Int)<8:=by omega
    have ID:=Lib.hid (fun w'=>kE w' VK);have KN:=Lib.hid (hn.new VK HW.out);clear hn hk;go_wp2;go_region_held3 (fun _=>True) (first|go_keep|trivial)
     (first
      |(go_at_call 18;(with_reducible refine (ID.out _).mono ?_);rintro e w4 ⟨rfl,k4⟩;obtain rfl:=k4.symm;clear k4)
      |(go_at_call 17;(first|(with_reducible refine (KN.out _ (Below.refl _ _)).mono ?_)|(refine (KN.out _ (Below.refl _ _).drew).mono ?_));rintro e w5 ⟨h,rfl,⟨y,hy⟩,hz,hb',O',hn⟩;have N5:=Lib.hid hn;clear hn))
    have NX:Hid (NwR C K w w3.heap.size p q g own' L rv.2.2 (.int .i64 ((k+1:Nat):Int)) (w5.setCell ⟨w3.heap.size,69+k,none⟩ (.pointer (some ⟨h,0,none⟩)))):=Lib.hid ⟨k+1,hb',O',rfl,VK,N5.out⟩;rw [show ((k+1:Nat):Int)=(k:Int)+1 by omega] at NX;clear N5;go_wp2;go_roundw
    case rel=>exact NX.out
    case measure=>simp [intOf];omega
  · obtain rfl:k=8:=by omega
    have t5:decide (((8:Nat):Int)<8)=false:=by decide
    clear hn;go_wp2
    go_ret2
    exact ⟨_,p,q,hb,L,rfl,NK.out.done HW.out HS.out HLO.out,HL.out,NK.out.bl⟩
end
end Go.Proofs.YtpibbcnkgdmcbaaGreatDoor
namespace Go.Proofs.YtpibbcnkgdmcbaaGreatDoor
open Go.RowKit aC aF aG aI au aD aB aA bf
def jT (n l:Nat):St:=(reserve ⟨n,l, [], [],0⟩ 1).2.2
theorem Ct {n l t:Nat} (ht:t<8):Ny (nO (jT n l)) t (jT n l):=
 ⟨⟨ht,fun u _ _=>rfl,rfl⟩,rfl,rfl,rfl,bP.GoodS.zero,by show (0:Nat)≤1000;omega,fun i=>rfl⟩
theorem J_:dV 16 (max 0 1)=(⟨0,1,0,16⟩,0):=by kernel_rfl
theorem YO:(reserve (jT 4 4) 1).2.1=0∧(reserve (jT 4 4) 1).1.toNat=1:=by constructor<;>kernel_rfl
theorem Rh (n l:Nat):(jT n l).r≤1:=(mU _ _).2.2
section
variable {w0 w w' w1 w2:World} {C:fH w0} {K:kW w0 C} {s p q g f m k cap:Nat} {hb:Nat→Nat} {S:Nat→Prop} {P:SY} {L:List Nat} {F:FR}
theorem Sc (h:ZZ (jT 4 4) 0 (nO (jT 4 4)) 16 0 P L F) (hL: ∀X∈P.all,GoodS X) (g:aO (P.H 0)):F.err=0∧F.addr=17408∧F.took=4∧tK P 17408=(16,0):=by
 rcases h with ⟨h1,_⟩|⟨_,h1,_⟩|⟨_,_,⟨_,h⟩|⟨h1,_⟩⟩
 · rw [J_] at h1;exact absurd rfl h1
 · rw [J_] at h1;exact absurd h1 (by decide)
 · rcases h with h|h
   · have ha:F.addr=17408:=by rw [h.ad,YO.2];rfl
     obtain ⟨X,hX,o,ho,h2,h3⟩:=h.ex;have hg:=(h.us.wh X hX o ho).1;have hu:=(F7 h.o g h.hu hX ho hg h3).1;rw [ha] at hu;rw [J_] at h2;refine ⟨h.er,ha,h.tk, ?_⟩;rw [hu,h2];rfl
   · exact absurd YO.1 h.res
 · rw [J_] at h1;exact absurd h1 (by decide)
end
theorem Nc (P:SY) (t ad n al:Nat) (z fo:Bool):XD P (jS t 1 ad n al z fo)=zi (jS t 1 ad n al z fo)∧U6 P (jS t 1 ad n al z fo)=sU (jS t 1 ad n al z fo):=⟨if_pos rfl,if_pos rfl⟩
theorem YH:sU (jS 0 1 0 16 0 false false)=kV:=by kernel_rfl
theorem Nl (w:World) (LY:Lay w):Calls Tryz.prog 4 #[] w fun e w'=>e= .returned (.bool true)∧Below w.heap.size w w':=by
 have NW:=Lib.hid (Oj (C:=Ya w LY) (K:=hpc w LY (Ya w LY)) (Below.refl _ w) (n:=4) (l:=4) (by omega) (by omega) (by omega) (by omega) (S:=fun _=>False) (fun k h=>h.elim) (fun k h=>h.elim));go_enter Tryz.func4,Tryz.ntmps4
 go_wp2_with fail
 refine NW.out.mono ?_;rintro e w1 ⟨s,p,q,hb,L,rfl,z,hl,hb1⟩;have BG:=Lib.hid (CF z LY (t:=0) (by decide) (ad:=0) (n:=16) (al:=0) (zz:=false) (fo:=false) (by decide) (by decide));have Z:=Lib.hid z;clear z hb1 hl;go_wp2_with fail
 refine BG.out.mono ?_;rintro e w2 ⟨f,m,rfl,hf,S2,a,k,cap,n2,i1,i2⟩;rw [(Nc _ 0 0 16 0 false false).1,(Nc _ 0 0 16 0 false false).2] at n2;have SA:=Lib.hid (KU n2.fr);rw [YH] at SA;obtain ⟨j,hj,he⟩:=uo (S:=fun _=>False) (A:=jT 4 4) (t:=0) (w:=w1) (ad:=0) (n:=16) (al:=0) (zz:=false) (fo:=false) n2 n2.un.size i1 (fun b hb=>(i2 b hb)) (Ct (by decide)) (by show (0:Nat)≤900;omega) (by have:=Rh 4 4;omega);have FN:=Lib.hid (qO (mo:=10) he (by omega) (by omega));clear n2 he;go_wp2_with fail
 refine SA.out.mono ?_;rintro e w3 ⟨rfl,rfl⟩;go_wp2_with fail
 refine FN.out.mono ?_;rintro e w4 ⟨rfl,P,L4,F,hl4,hz,S4,a4,k4,cap4,n4,_,_⟩;obtain ⟨v1,v2,v3,v4⟩:=Sc hz (fun X hX=>(n4.os.FV.1 X hX).1) (n4.os.J6 (by decide));have RS:=n_ n4.fr;rw [v1,v2,v3] at RS;have RS:=Lib.hid RS;have US:=fun w5 (h:Below w4.heap.size w4 w5)=>pI (n4.grew h).os (x:=17408) (by decide);rw [v4] at US;have US:=Lib.hid US;have B4:=Lib.hid n4.os.below;have BN:=Lib.hid (fun w=>Nf w (t:=0) (c0:= .int .i64 0) (c1:= .int .u64 0) (c2:= .int .u64 0) (c3:= .int .u64 0) (c4:= .bool false) (c5:= .bool false));clear n4 hz v1 v2 v3 v4 hl4;go_wp2_with fail
 refine RS.out.mono ?_;rintro e w5 ⟨rfl,hb5⟩;have B5:=Lib.hid hb5;have B6:=Lib.hid (hb5.alloc hb5.size (.cells #[.int .u64 (17408:Nat), .int .i64 0, .int .i64 (4:Nat)] 35));clear hb5;unfold OV;go_wp2_with fail
 refine (US.out _ B6.out).mono ?_;rintro e w6 ⟨rfl,hb6⟩;have B7:=Lib.hid (ah B6.out B6.out.size hb6);have nb:=(aV.new w5 35 #[.int .u64 (17408:Nat), .int .i64 0, .int .i64 (4:Nat)]).grew hb6;have r0:=nb.cell 0;have r1:=nb.cell 1;have r2:=nb.cell 2;clear hb6;go_wp2_with fail
 refine (BN.out _).mono ?_;rintro e w7 ⟨rfl,hb7⟩;have B8:=Lib.hid (ah B7.out B7.out.size hb7);have nb:=nb.grew hb7;have r0:=nb.cell 0;have r1:=nb.cell 1;have r2:=nb.cell 2;clear hb7 nb;go_wp2;go_ret;exact ⟨rfl,ah B4.out B4.out.size B8.out⟩
end Go.Proofs.YtpibbcnkgdmcbaaGreatDoor
namespace Go.Proofs.YtpibbcnkgdmcbaaGreatDoor
open Go.RowKit aC aF aG aI au aD aB aA bf
theorem Bt (A:St):(nO A).all= []:=by
 unfold SY.all;rw [List.append_eq_nil_iff];exact ⟨List.flatMap_eq_nil_iff.2 fun u _=>rfl,rfl⟩
theorem NT (A:St) (x:Nat):tK (nO A) x=(0,5):=by
 have h1:fI (nO A).hu x=none:=ny (fun _=>rfl) x;have h2:sK (nO A) x=none:=by unfold sK;rw [Bt];rfl
 unfold tK;rw [h1,h2]
section
variable {w0 w w' w1 w2:World} {C:fH w0} {K:kW w0 C} {s p q g f m k cap:Nat} {hb:Nat→Nat} {S S':Nat→Prop} {P:SY} {L:List Nat} {F:FR} {a:Option Addr} {t:Nat} {A:St}
theorem Dm (z:OS C K s p q hb P L S w):Calls Tryz.prog 11 #[.pointer (some ⟨q,0,none⟩)] w fun e w'=>e= .returned (.int .i64 (aA.total P.A.l:Int))∧Below w.heap.size w w':=by
 obtain ⟨⟨g,own,O,B,R,z1,z2⟩,_⟩:=z;exact Az z1.env.ar
def Rv (A:St) (er:Int) (P:SY) (L:List Nat) (F:FR):Prop:=P.A=A∧F.err=er∧F.took=1∧F.addr=0
theorem Iz (n:aQ C K s p q hb S' f m a k cap w (nO A) L F lq w') (h1: ∀b,S b→S' b) (h2: ∀b,S' b→S b∨w.heap.size≤b) (hx:bM F.ad) (hk:F.kd=2) (ht:F.took=0) (ha:F.addr=0):
 Ends f (Over C K s p q hb S f m w L.length (Rv A 5)) 1 w':=by
 refine fu n wK (by omega) (fun w1 h=>CJ h) Cr fun w1 n1 hw1=> ?_;refine (zS n1 hx (ny (fun _=>rfl) _) (fun X hX=>by rw [Bt] at hX;cases hX)).mono ?_;rintro er w2 ⟨rfl,n2⟩;refine ⟨_,rfl,_,_,_,_,_,_,_,n2,fun w3 n3=>gu n3 h1 h2 ?_⟩;have e1:jr (cB F) 5={cB F with err:=5}:=if_pos hk;rw [e1];exact ⟨rfl,rfl,by show F.took+1=1;omega,ha⟩
theorem MO (n:aQ C K s p q hb S' f m a k cap w (nO A) L F Bb w') (h1: ∀b,S b→S' b) (h2: ∀b,S' b→S b∨w.heap.size≤b) (hx:bM F.ad) (ht:F.took=0) (ha:F.addr=0):
 Ends f (Over C K s p q hb S f m w L.length (Rv A 5)) 1 w':=by
 refine fu n PV (by omega) (fun w1 h=>XH h) Xv fun w1 n1 hw1=> ?_;have hu:tK (nO A) (cB F).ad=(0,5):=NT A _;refine (Cm n1 hx (by rw [hu];decide)).mono ?_;rintro er w2 ⟨rfl,n2⟩;refine ⟨_,rfl,_,_,_,_,_,_,_,n2,fun w3 n3=>gu n3 h1 h2 ⟨rfl,by show (tK (nO A) (cB F).ad).2=5;rw [hu],by show F.took+1=1;omega,ha⟩⟩
theorem yY (n:aQ C K s p q hb S' f m a k cap w (nO A) L F kL w') (h1: ∀b,S b→S' b) (h2: ∀b,S' b→S b∨w.heap.size≤b) (ht:F.took=0) (ha:F.addr=0) (he:F.err=0):
 Ends f (Over C K s p q hb S f m w L.length (Rv A 0)) 1 w':=by
 refine fu n BS (by omega) (fun w1 h=>Vd h) UF fun w1 n1 hw1=> ?_;refine (OU w1).mono ?_;rintro er w2 ⟨rfl,rfl⟩;exact ⟨_,rfl,_,_,_,_,_,_,_,n1,fun w3 n3=>gu n3 h1 h2 ⟨rfl,he,by show F.took+1=1;omega,ha⟩⟩
theorem Iu (n:aQ C K s p q hb S' f m a k cap w (nO A) L F je w') (h1: ∀b,S b→S' b) (h2: ∀b,S' b→S b∨w.heap.size≤b) (hk:F.kd=4) (ht:F.took=0) (ha:F.addr=0) (he:F.err=0):
 Ends f (Over C K s p q hb S f m w L.length (Rv A 0)) 1 w':=by
 refine fu n wJ (by omega) (fun w1 h=>Kk h) Kc fun w1 n1 hw1=> ?_;refine (Eo n1 bP.GoodS.zero (show (0:Nat)≤999999999 by omega)).mono ?_;rintro er w2 ⟨rfl,n2⟩;have hs:oI (nO A) (cB F)=cK:=by
  unfold oI;rw [if_neg (show ¬bP.mO (nO A).S.L≠ -1 from fun h=>h rfl),if_neg (show ¬((cB F).kd=1∨(cB F).kd=3) by show ¬(F.kd=1∨F.kd=3);omega)]
 rw [hs];exact ⟨_,rfl,_,_,_,_,_,_,_,n2,fun w3 n3=>gu n3 h1 h2 ⟨rfl,he,by show F.took+1=1;omega,ha⟩⟩
def Yz (kd:Int):Int:=if kd=2∨kd=3 then 5 else 0
theorem Qz {F:FR} (hk:F.kd=4∨F.kd=5) (ht:F.t<8):zh (nO A) F=if F.kd=4∧F.fo=true then je else kL:=by
 have hp:p9 (nO A) F=fU F []:=by
  unfold p9;rw [show iD ((nO A).H F.t) []= [] from D9 []]
 unfold zh;rw [hp];have h1: ¬(fU F []).pages≠ []:=fun h=>h rfl;have h2: ¬((fU F []).kd=1∨(fU F []).kd=3):=by show ¬(F.kd=1∨F.kd=3);omega
 rcases hk with hk|hk
 · have h3: ¬(fU F []).kd=5:=by show ¬F.kd=5;omega
   by_cases hf:F.fo=true
   · have:fD (nO A) (fU F [])=je:=by unfold fD;rw [if_neg h1,if_neg h2,if_neg h3,if_pos (show (fU F []).fo=true from hf)]
     rw [this];exact (show _=je from rfl).trans (if_pos ⟨hk,hf⟩).symm
   · have:fD (nO A) (fU F [])=cK:=by unfold fD;rw [if_neg h1,if_neg h2,if_neg h3,if_neg (show ¬(fU F []).fo=true from hf)]
     rw [this];exact (show _=kL from rfl).trans (if_neg fun h=>hf h.2).symm
 · have:fD (nO A) (fU F [])=cK:=by
    unfold fD;rw [if_neg h1,if_neg h2,if_pos (show (fU F []).kd=5 from hk)];exact if_pos rfl
   rw [this];exact (show _=kL from rfl).trans (if_neg fun h=>by have:=h.1;omega).symm
theorem Yp (LY:Lay w0) (z:OS C K s p q hb (nO (jT 8 8)) L S w) (ht:t<8) {kd:Int} (h1:1≤kd) (h2:kd≤5) {ad n al:Nat} {zz fo:Bool} (ha:bM ad) (hn:bM n) (hal:bM al):
 Calls Tryz.prog 6 #[.pointer (some ⟨s,0,none⟩), .int .i64 (t:Int),mD kd ad n al zz fo] w fun e w'=> ∃f m st F S' a k cap,e= .returned (.tuple #[.pointer (some ⟨f,0,none⟩), .int .i64 0])∧(w.heap.size≤f∧ ∀b,S b→S' b)∧aQ C K s p q hb S' f m a k cap w (nO (jT 8 8)) L F st w'∧(st.toList== [100,111,110,101])=false∧
  (kd=1→ ∀w2,aQ C K s p q hb S' f m a k cap w (nO (jT 8 8)) L F st w2→ ∃j,j≤4∧ ∃Z,Ends f (Over C K s p q hb S f m w L.length Z) j w2)∧(kd≠1→ ∀w2,aQ C K s p q hb S' f m a k cap w (nO (jT 8 8)) L F st w2→Ends f (Over C K s p q hb S f m w L.length (Rv (jT 8 8) (Yz kd))) 1 w2):=by
 have hh:kd=1∨kd=2∨kd=3∨kd=4∨kd=5:=by omega
 rcases hh with rfl|rfl|rfl|rfl|rfl
 · refine (CF z LY ht hn hal).mono ?_
   rintro e w1 ⟨f,m,rfl,hf,S',a,k,cap,n1,i1,i2⟩;rw [(Nc _ t ad n al zz fo).1,(Nc _ t ad n al zz fo).2] at n1;refine ⟨f,m,_,_,S',a,k,cap,rfl,⟨hf,i1⟩,n1, ?_,fun _ w2 n2=> ?_,fun h=>absurd rfl h⟩
   · unfold sU
     split
     · exact Ak
     · unfold nS
       split
       · exact JN
       · split
         · exact Ef
         · exact x9
   · obtain ⟨j,hj,he⟩:=uo (S:=S) (A:=jT 8 8) (t:=t) (w:=w) n2 n2.un.size i1 i2 (Ct ht) (show (0:Nat)≤900 by omega) (by have:=Rh 8 8;omega)
     exact ⟨j,hj,_,he⟩
 · refine (Kj z ht).mono ?_
   rintro e w1 ⟨f,m,rfl,hf,S',a,k,cap,n1,i1,i2⟩;exact ⟨f,m,_,_,S',a,k,cap,rfl,⟨hf,i1⟩,n1,wK,fun h=>absurd h (by decide),fun _ w2 n2=>Iz n2 i1 i2 ha rfl rfl rfl⟩
 · refine (Va z ht).mono ?_
   rintro e w1 ⟨f,m,rfl,hf,S',a,k,cap,n1,i1,i2⟩;exact ⟨f,m,_,_,S',a,k,cap,rfl,⟨hf,i1⟩,n1,PV,fun h=>absurd h (by decide),fun _ w2 n2=>MO n2 i1 i2 ha rfl rfl⟩
 · refine (U_ z ht).mono ?_
   rintro e w1 ⟨f,m,rfl,hf,S',a,k,cap,n1,i1,i2⟩;have hs:U6 (nO (jT 8 8)) (jS t 4 ad n al zz fo)=if (4:Int)=4∧fo=true then je else kL:=Qz (A:=jT 8 8) (F:=jS t 4 ad n al zz fo) (.inl rfl) ht
   rw [hs] at n1;by_cases hf2:fo=true
   · rw [if_pos ⟨rfl,hf2⟩] at n1
     exact ⟨f,m,_,_,S',a,k,cap,rfl,⟨hf,i1⟩,n1,wJ,fun h=>absurd h (by decide),fun _ w2 n2=>Iu n2 i1 i2 rfl rfl rfl rfl⟩
   · rw [if_neg fun h=>hf2 h.2] at n1
     exact ⟨f,m,_,_,S',a,k,cap,rfl,⟨hf,i1⟩,n1,BS,fun h=>absurd h (by decide),fun _ w2 n2=>yY n2 i1 i2 rfl rfl rfl⟩
 · refine (U9 z ht).mono ?_
   rintro e w1 ⟨f,m,rfl,hf,S',a,k,cap,n1,i1,i2⟩;have hs:U6 (nO (jT 8 8)) (jS t 5 ad n al zz fo)=if (5:Int)=4∧fo=true then je else kL:=Qz (A:=jT 8 8) (F:=jS t 5 ad n al zz fo) (.inr rfl) ht
   rw [hs,if_neg fun h=>absurd h.1 (by decide)] at n1;exact ⟨f,m,_,_,S',a,k,cap,rfl,⟨hf,i1⟩,n1,BS,fun h=>absurd h (by decide),fun _ w2 n2=>yY n2 i1 i2 rfl rfl rfl⟩
end
end Go.Proofs.YtpibbcnkgdmcbaaGreatDoor
