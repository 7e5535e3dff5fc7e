/- The landed system (layer 14): how it is made. -/
import Derived.Test.YtippfeplogkaiaaGreatDoorCallsB
namespace Go.Proofs.YtippfeplogkaiaaGreatDoor
open Go.RowKit ListMath PageMath GeoMath SegMath ClassMath HeapMath QueueMath ArenaMath CallMath
set_option linter.unusedVariables false
set_option maxRecDepth 100000
def SyN (w:World) (s p q:Nat) (hb:Nat→Nat) (k:Nat):Prop:=
  ∃ cs,Blk w s 117 cs∧cs.size=205∧cs[0]? =some (.pointer (some ⟨p,0,none⟩))∧cs[1]? =some (.pointer (some ⟨q,0,none⟩))∧
    (cs[2]? =some (.int .u64 0)∧cs[3]? =some (.int .u64 0)∧cs[4]? =some (.int .i64 0)∧ ∀x,x<64→cs[5+x]? =some (.int .u64 0))∧
    (∀t,t<k→cs[69+t]? =some (.pointer (some ⟨hb t,0,none⟩)))∧(∀i,i<64→cs[77+i]? =some (.int .i64 0))∧ ∀i,i<64→cs[141+i]? =some (.pointer none)
theorem zero_is:Tryz.zeroCells117= #[.pointer none, .pointer none, .int .u64 0, .int .u64 0, .int .i64 0]++(Array.replicate 64 (Value.int .u64 0)++(Array.replicate 8 (Value.pointer none)++(Array.replicate 64 (Value.int .i64 0)++Array.replicate 64 (Value.pointer none)))):=by kernel_rfl
theorem rep_at {α:Type} {n i:Nat} {x:α} (h:i<n):(Array.replicate n x)[i]? =some x:=by rw [Array.getElem?_replicate,if_pos h]
theorem app_r {α:Type} {a b:Array α} {n i:Nat} (h:a.size=n):(a++b)[n+i]? =b[i]? :=by
  rw [Array.getElem?_append,if_neg (by omega)]
  congr 1;omega
theorem app_l {α:Type} {a b:Array α} {n i:Nat} (h:a.size=n) (hi:i<n):(a++b)[i]? =a[i]? :=by rw [Array.getElem?_append,if_pos (by omega)]
theorem sy_zero (w:World) (p q:Nat):SyN (w.alloc (.cells ((Tryz.zeroCells117.setIfInBounds 0 (.pointer (some ⟨p,0,none⟩))).setIfInBounds 1 (.pointer (some ⟨q,0,none⟩))) 117)) w.heap.size p q (fun _=>0) 0:=by
  have hs:Tryz.zeroCells117.size=205:=by kernel_rfl
  refine ⟨_,Blk.new w _ _,by rw [Array.size_setIfInBounds,Array.size_setIfInBounds];exact hs, ?_, ?_,⟨?_, ?_, ?_,fun x hx=> ?_⟩,fun t ht=>absurd ht (Nat.not_lt_zero _),fun i hi=> ?_,fun i hi=> ?_⟩
  · rw [Array.getElem?_setIfInBounds_ne (by decide)];exact Array.getElem?_setIfInBounds_self_of_lt (by omega)
  · exact Array.getElem?_setIfInBounds_self_of_lt (by rw [Array.size_setIfInBounds];omega)
  · rw [Array.getElem?_setIfInBounds_ne (by decide),Array.getElem?_setIfInBounds_ne (by decide)];kernel_rfl
  · rw [Array.getElem?_setIfInBounds_ne (by decide),Array.getElem?_setIfInBounds_ne (by decide)];kernel_rfl
  · rw [Array.getElem?_setIfInBounds_ne (by decide),Array.getElem?_setIfInBounds_ne (by decide)];kernel_rfl
  · rw [Array.getElem?_setIfInBounds_ne (by omega),Array.getElem?_setIfInBounds_ne (by omega),zero_is,app_r (n:=5) rfl,app_l (n:=64) (by simp) hx]
    exact rep_at hx
  · rw [Array.getElem?_setIfInBounds_ne (by omega),Array.getElem?_setIfInBounds_ne (by omega),zero_is,show 77+i=5+(64+(8+i)) by omega,app_r (n:=5) rfl,app_r (n:=64) (by simp),app_r (n:=8) (by simp),app_l (n:=64) (by simp) hi]
    exact rep_at hi
  · rw [Array.getElem?_setIfInBounds_ne (by omega),Array.getElem?_setIfInBounds_ne (by omega),zero_is,show 141+i=5+(64+(8+(64+i))) by omega,app_r (n:=5) rfl,app_r (n:=64) (by simp),app_r (n:=8) (by simp),app_r (n:=64) (by simp)]
    exact rep_at hi
section
variable {w0 w w' ws:World} {C:SgC w0} {K:HpC w0 C} {s p q g k h:Nat} {hb:Nat→Nat} {own O':Nat→Prop} {O:Nat→Nat→Prop} {L:List Nat} {A:St} {T:Nat→Prop}
theorem SyN.upd (h:SyN w s p q hb k) (u:Upd T w w') (ht: ¬T s):SyN w' s p q hb k:=by obtain ⟨cs,k,e⟩:=h;exact ⟨cs,k.upd u ht,e⟩
theorem SyN.cell (h:SyN w s p q hb k) {t:Nat} (ht:t<8): ∃y,w.cell? ⟨s,69+t,none⟩=some y:=by
  obtain ⟨cs,b,e,_⟩:=h
  exact ⟨cs[69+t],by rw [b.cell];exact Array.getElem?_eq_getElem (by omega)⟩
theorem SyN.frozen (h:SyN w s p q hb k) (i:Nat):w.frozen? ⟨s,i,none⟩=false:=by obtain ⟨cs,k,_⟩:=h;exact k.frozen i
theorem SyN.put (z:SyN w s p q hb k) (hk:k<8):SyN (w.setCell ⟨s,69+k,none⟩ (.pointer (some ⟨h,0,none⟩))) s p q (fun u=>if u=k then h else hb u) (k+1):=by
  obtain ⟨cs,b,e,e0,e1,⟨a0,a1,a2,a3⟩,e3,e4,e5⟩:=z
  refine ⟨_,b.put (69+k) _,by simpa using e, ?_, ?_,⟨?_, ?_, ?_,fun x hx=> ?_⟩,fun t ht=> ?_,fun i hi=> ?_,fun i hi=> ?_⟩
  · rw [Array.getElem?_setIfInBounds_ne (by omega)];exact e0
  · rw [Array.getElem?_setIfInBounds_ne (by omega)];exact e1
  · rw [Array.getElem?_setIfInBounds_ne (by omega)];exact a0
  · rw [Array.getElem?_setIfInBounds_ne (by omega)];exact a1
  · rw [Array.getElem?_setIfInBounds_ne (by omega)];exact a2
  · rw [Array.getElem?_setIfInBounds_ne (by omega)];exact a3 x hx
  · by_cases et:t=k
    · subst et
      rw [Array.getElem?_setIfInBounds_self_of_lt (by omega)];simp
    · rw [Array.getElem?_setIfInBounds_ne (by omega)];simp only [if_neg et];exact e3 t (by omega)
  · rw [Array.getElem?_setIfInBounds_ne (by omega)];exact e4 i hi
  · rw [Array.getElem?_setIfInBounds_ne (by omega)];exact e5 i hi
structure NwS {w0:World} (C:SgC w0) (K:HpC w0 C) (ws:World) (s p q g:Nat) (own:Nat→Prop) (L:List Nat) (A:St) (hb:Nat→Nat) (O:Nat→Nat→Prop) (k:Nat) (w:World):Prop where
  cs:SyN w s p q hb k
  env:Env C w p g q own L A []
  hp: ∀t,t<k→K.Hp w (hb t) (O t) (t+1) p q [] (fun _=>q0)
  lo: ∀t,t<k→ ∀x,O t x→s<x
  two: ∀t u,t<k→u<k→t≠u→ ∀x,O t x→ ¬O u x
  bl:Below ws.heap.size ws w
  far:ws.heap.size≤s∧ ∀x,EO p g own [] x→ws.heap.size≤x∧x<s
theorem NwS.next (z:NwS C K ws s p q g own L A hb O k w) (hk:k<8) (hw0:w0.heap.size≤ws.heap.size) (hp:K.Hp w' h O' (k+1) p q [] (fun _=>q0)) (hO: ∀x,O' x→w.heap.size≤x) (hb2:Below w.heap.size w w'):
    NwS C K ws s p q g own L A (fun u=>if u=k then h else hb u) (fun u=>if u=k then O' else O u) (k+1) (w'.setCell ⟨s,69+k,none⟩ (.pointer (some ⟨h,0,none⟩))):=by
  have hs:s<w.heap.size:=by obtain ⟨cs,b,_⟩:=z.cs;exact b.lt
  have u1:Upd (fun b=>b=s) w' (w'.setCell ⟨s,69+k,none⟩ (.pointer (some ⟨h,0,none⟩))):=upd_at w' s _ _
  refine ⟨(z.cs.upd (updFalse_of hb2) fun x=>x.elim).put hk,(z.env.grew hb2).upd u1 fun x hx he=> ?_,fun t ht=> ?_,fun t ht x hx=> ?_,fun t u ht hu hne x hx hy=> ?_, ?_,z.far⟩
  · have:=(z.far.2 x he).2;omega
  · by_cases e:t=k
    · subst e
      simp only [if_pos]
      exact K.upd hp u1 fun x hx ho=>by have:=hO x ho;omega
    · simp only [if_neg e]
      refine K.upd (K.upd (z.hp t (by omega)) (updFalse_of hb2) fun _ x=>x.elim) u1 fun x hx ho=> ?_
      have:=z.lo t (by omega) x ho;omega
  · by_cases e:t=k
    · simp only [if_pos e] at hx;have:=hO x hx;omega
    · simp only [if_neg e] at hx;exact z.lo t (by omega) x hx
  · by_cases e:t=k
    · simp only [if_pos e] at hx
      have h2:u≠k:=fun h=>hne (e.trans h.symm)
      simp only [if_neg h2] at hy
      have h3:=(K.num (z.hp u (by omega))).2.1 x hy
      have:=hO x hx;omega
    · simp only [if_neg e] at hx
      have h3:=(K.num (z.hp t (by omega))).2.1 x hx
      by_cases e2:u=k
      · simp only [if_pos e2] at hy;have:=hO x hy;omega
      · simp only [if_neg e2] at hy;exact z.two t u (by omega) (by omega) hne x hx hy
  · have h1:=below_then z.bl z.bl.size hb2
    exact h1.trans (u1.below (fun x hx=>by have:=z.far.1;omega) h1.size)
theorem NwS.grew (z:NwS C K ws s p q g own L A hb O k w) (h:Below w.heap.size w w'):NwS C K ws s p q g own L A hb O k w':=
  ⟨z.cs.upd (updFalse_of h) fun x=>x,z.env.grew h,fun t ht=>K.upd (z.hp t ht) (updFalse_of h) fun _ x=>x.elim,z.lo,z.two,below_then z.bl z.bl.size h,z.far⟩
theorem NwS.drew (z:NwS C K ws s p q g own L A hb O k w):NwS C K ws s p q g own L A hb O k w.drew:=z.grew (Below.refl _ _).drew
theorem NwS.new (z:NwS C K ws s p q g own L A hb O k w) (hk:k<8) (hw:Below w0.heap.size w0 ws) (w':World) (h:Below w.heap.size w w'):
    Calls Tryz.prog 78 #[.pointer (some ⟨p,0,none⟩), .pointer (some ⟨q,0,none⟩), .int .u64 ((k+1:Nat):Int)] w' fun e w5=> ∃h,e= .returned (.tuple #[.pointer (some ⟨h,0,none⟩), .int .i64 0])∧(∃y,w5.cell? ⟨s,69+k,none⟩=some y)∧w5.frozen? ⟨s,69+k,none⟩=false∧ ∃hb' O',NwS C K ws s p q g own L A hb' O' (k+1) (w5.setCell ⟨s,69+k,none⟩ (.pointer (some ⟨h,0,none⟩))):=by
  have hbw:=below_then (below_then hw hw.size z.bl) (Nat.le_trans hw.size z.bl.size) h
  refine (K.new w' hbw (p:=p) (q:=q) (id:=k+1) (by omega) (by omega)).mono ?_
  rintro e w5 ⟨h5,O5,rfl,k1,k2,k3⟩
  have z':=(z.grew h)
  have zs:=z'.cs.upd (updFalse_of k3) fun x=>x
  exact ⟨h5,rfl,zs.cell hk,zs.frozen _,_,_,z'.next hk hw.size k1 k2 k3⟩
def NwR {w0:World} (C:SgC w0) (K:HpC w0 C) (ws:World) (s p q g:Nat) (own:Nat→Prop) (L:List Nat) (A:St) (i:Value) (w:World):Prop:= ∃(k:Nat) (hb:Nat→Nat) (O:Nat→Nat→Prop),i= .int .i64 (k:Int)∧k≤8∧NwS C K ws s p q g own L A hb O k w
def sy0 (A:St):SY:=⟨A,fun _=>h0, [],StackMath.s0,fun _=>0,fun _=>none⟩
theorem NwS.done {S:Nat→Prop} (z:NwS C K ws s p q g own L A hb O 8 w) (hw:Below w0.heap.size w0 ws) (hS: ∀k,S k→k<ws.heap.size) (hlo: ∀k,S k→w0.heap.size≤k):OS C K s p q hb (sy0 A) L S w:=by
  have hO: ∀t,t<8→ ∀x,O t x→s<x:=fun t ht x hx=>z.lo t ht x hx
  have hE: ∀x,EO p g own (allB (fun _=>([]:List SB)) []) x→EO p g own [] x:=fun x hx=>hx
  refine ⟨⟨g,own,O,fun _=> [], [],⟨?_,z.env,fun t ht=>z.hp t ht,fun t ht=>rfl,rfl,fun t ht=>GoodH.zero,fun t ht x hx he=> ?_,fun t u ht hu=>z.two t u ht hu,⟨fun he=> ?_,fun t ht hx=> ?_⟩,fun b hb=>(by cases hb),fun i hi=>Nat.zero_le _,fun i hi x hx=>(by cases hx),fun x hx=> ?_⟩,fun x hx hs=> ?_⟩,below_then hw hw.size z.bl,fun x hx=> ?_,hlo⟩
  · obtain ⟨cs,b,e,e0,e1,⟨a0,a1,a2,a3⟩,e3,e4,e5⟩:=z.cs
    exact ⟨cs,b,e0,e1,⟨a0,a1,a2,a3⟩,e3,e4,e5⟩
  · have:=(z.far.2 x (hE x he)).2;have:=hO t ht x hx;omega
  · have:=(z.far.2 s (hE s he)).2;omega
  · have:=hO t ht s hx;omega
  · have h1:=hw.size
    rcases hx with rfl|hx|⟨t,ht,hx⟩
    · have:=z.far.1;omega
    · have:=(z.far.2 x (hE x hx)).1;omega
    · have:=hO t ht x hx;have:=z.far.1;omega
  · have h2:=hS x hs
    rcases hx with rfl|hx|⟨t,ht,hx⟩
    · have:=z.far.1;omega
    · have:=(z.far.2 x (hE x hx)).1;omega
    · have:=hO t ht x hx;have:=z.far.1;omega
  · have:=hS x hx;have:=z.bl.size;omega
theorem env_new {L:List Nat} {A0:St} (hm:IsMem w p g L) (ha:IsArena w q own A) (hl:A.S*16384=L.length) (hn: ∀k,own k→k≠p∧k≠g):Env C w p g q own L A []:=
  ⟨⟨hm,fun b hb=>(by cases hb),List.Pairwise.nil,List.nodup_nil⟩,ha,hl,fun b hb=>(by cases hb),fun k hk=>⟨(hn k hk).1,(hn k hk).2,fun b hb=>(by cases hb)⟩⟩
set_option maxHeartbeats 4000000 in
theorem sysNew (hw:Below w0.heap.size w0 w) {n l:Nat} (h1:2≤n) (h2:n≤64) (h3:1≤l) (h4:l≤n) {S:Nat→Prop} (hS: ∀k,S k→k<w.heap.size) (hlo: ∀k,S k→w0.heap.size≤k):
    Calls Tryz.prog 40 #[.int .i64 (n:Int), .int .i64 (l:Int)] w fun e w'=> ∃s p q hb L,e= .returned (.tuple #[.pointer (some ⟨s,0,none⟩), .int .i64 0])∧OS C K s p q hb (sy0 (reserve ⟨n,l, [], [],0⟩ 1).2.2) L S w'∧L.length=n*16384∧Below w.heap.size w w':=by
  have t1:decide ((n:Int)<2)=false:=decide_eq_false (by omega)
  have t2:decide ((64:Int)<(n:Int))=false:=decide_eq_false (by omega)
  have t3:decide ((l:Int)<1)=false:=decide_eq_false (by omega)
  have t4:decide (n<l)=false:=decide_eq_false (by omega)
  obtain ⟨N,hN⟩: ∃N,n*16384=N:=⟨_,rfl⟩
  have wS:IntKind.u64.wrap (n:Int)=(n:Int):=IntWalk.u64_in _ ⟨by omega,by omega⟩
  have eN:(n:Int)*16384=(N:Int):=by omega
  have wN:IntKind.u64.wrap (N:Int)=(N:Int):=IntWalk.u64_in _ ⟨by omega,by omega⟩
  have HM:=Lib.hid (newMem N (by omega) (by omega) (by omega) w)
  have HA:=Lib.hid (fun (w:World)=>lives_new n l (by omega) h2 h4 (Below.refl w.heap.size w))
  have HW:=Lib.hid hw;have HN:=Lib.hid hN;have HS:=Lib.hid hS;have HLO:=Lib.hid hlo
  rw [hN]
  clear h1 h2 h3 h4 hw hN hS hlo
  obtain ⟨rv,hrv⟩: ∃rv,reserve ⟨n,l, [], [],0⟩ 1=rv:=⟨_,rfl⟩
  have hSz:rv.2.2.S=n:=by rw [←hrv];exact (reserve_same _ _).1
  have HR:=Lib.hid hrv;have HZ:=Lib.hid hSz
  rw [hrv]
  clear hrv hSz
  go_enter Tryz.func40,Tryz.ntmps40
  go_wp2_with fail
  refine HM.out.mono ?_;rintro e w1 ⟨p,g,L,rfl,hm,hl,fp,fg,b1⟩
  have M1:=Lib.hid (And.intro hm (And.intro hl (And.intro fp (And.intro fg b1))))
  clear hm hl fp fg b1
  go_wp2_with fail
  refine (HA.out w1).mono ?_;rintro e w2 ⟨q,rfl,own,ha,ho,b2⟩
  have A1:=Lib.hid (And.intro ha (And.intro ho b2))
  clear ha ho b2
  go_wp2_with fail
  have RS:=reserve_any A1.out.1 1 (show (0:Nat)≤1000000000000 by omega)
  rw [HR.out] at RS
  refine RS.mono ?_;rintro e w3 ⟨rfl,⟨own',ha,ho⟩,hu⟩
  have b13:Below w1.heap.size w1 w3:=A1.out.2.2.trans (hu.below A1.out.2.1 A1.out.2.2.size)
  have hown: ∀k,own' k→w1.heap.size≤k:=fun k hk=>(ho k hk).elim (A1.out.2.1 k) fun x=>Nat.le_trans A1.out.2.2.size x
  have m3:IsMem w3 p g L:=M1.out.1.upd (updFalse_of b13) (fun x=>x) (fun x=>x)
  have hp3:=M1.out.1.head.lt
  have hg3:=M1.out.1.row.lt
  have E3:Env C w3 p g q own' L rv.2.2 []:=env_new (A0:=rv.2.2) m3 ha (by rw [HZ.out,M1.out.2.1];exact HN.out) fun k hk=>⟨fun e=>by have:=hown k hk;omega,fun e=>by have:=hown k hk;omega⟩
  have hb3:Below w3.heap.size w3 (w3.alloc (.cells ((Tryz.zeroCells117.setIfInBounds 0 (.pointer (some ⟨p,0,none⟩))).setIfInBounds 1 (.pointer (some ⟨q,0,none⟩))) 117)):=(Below.refl _ _).alloc (Nat.le_refl _) _
  have hbw:Below w.heap.size w w3:=below_then M1.out.2.2.2.2 M1.out.2.2.2.2.size b13
  have hfar: ∀x,EO p g own' [] x→w.heap.size≤x∧x<w3.heap.size:=fun x hx=>by
    refine ⟨?_,E3.lt hx⟩
    rcases hx with h|h|h|⟨b,hb,_⟩
    · rw [h];exact M1.out.2.2.1
    · rw [h];exact M1.out.2.2.2.1
    · have:=hown x h;have:=M1.out.2.2.2.2.size;omega
    · cases hb
  have hsy:=sy_zero w3 p q
  have N0:=Lib.hid (show NwS C K w w3.heap.size p q g own' L rv.2.2 (fun _=>0) (fun _ _=>False) 0 _ from ⟨hsy,E3.grew hb3,fun t ht=>absurd ht (Nat.not_lt_zero _),fun t ht=>absurd ht (Nat.not_lt_zero _),fun t u ht=>absurd ht (Nat.not_lt_zero _),below_then hbw hbw.size hb3,hbw.size,hfar⟩)
  have HL:=Lib.hid M1.out.2.1
  clear ha ho hu b13 hown m3 hp3 hg3 E3 hb3 hbw M1 A1 RS hfar hsy
  go_wp2
  go_loopw [47] (fun i wr=>NwR C K w w3.heap.size p q g own' L rv.2.2 i wr) (fun i _=>8-(intOf i).toNat)
  case atStart=>exact ⟨0,_,_,rfl,by omega,N0.out⟩
  case round=>
    clear N0
    obtain ⟨k,hb,O,rfl,hk,hn⟩:=hrel
    have NK:=Lib.hid hn
    by_cases hk8:k<8
    · have t5:decide ((k:Int)<8)=true:=decide_eq_true (by omega)
      have q1:(0:Int)≤(k:Int):=by omega
      have q2:(k:Int)<8:=by omega
      have ID:=Lib.hid (fun w'=>idOf_any w' hk8)
      have KN:=Lib.hid (hn.new hk8 HW.out)
      clear hn hk
      go_wp2
      go_region_held3 (fun _=>True) (first|go_keep|trivial)
        (first
          |(go_at_call 67;(with_reducible refine (ID.out _).mono ?_);rintro e w4 ⟨rfl,k4⟩;obtain rfl:=k4.symm;clear k4)
          |(go_at_call 78;(first|(with_reducible refine (KN.out _ (Below.refl _ _)).mono ?_)|(refine (KN.out _ (Below.refl _ _).drew).mono ?_));rintro e w5 ⟨h,rfl,⟨y,hy⟩,hz,hb',O',hn⟩;have N5:=Lib.hid hn;clear hn))
      have NX:Hid (NwR C K w w3.heap.size p q g own' L rv.2.2 (.int .i64 ((k+1:Nat):Int)) (w5.setCell ⟨w3.heap.size,69+k,none⟩ (.pointer (some ⟨h,0,none⟩)))):=Lib.hid ⟨k+1,hb',O',rfl,hk8,N5.out⟩
      rw [show ((k+1:Nat):Int)=(k:Int)+1 by omega] at NX
      clear N5
      go_wp2
      go_roundw
      case rel=>exact NX.out
      case measure=>simp [intOf];omega
    · obtain rfl:k=8:=by omega
      have t5:decide (((8:Nat):Int)<8)=false:=by decide
      clear hn
      go_wp2
      go_ret2
      exact ⟨_,p,q,hb,L,rfl,NK.out.done HW.out HS.out HLO.out,HL.out,NK.out.bl⟩
end
end Go.Proofs.YtippfeplogkaiaaGreatDoor
