/- HpsA: texts of layers below, joined (DelLay HpMath HpA HpB HpC HpD HpE HpF HpG). -/
import Derived.Shelf.SlGeneric
import Derived.Shelf.SlicesE.DeleteFunc
import Derived.Test.YtpibbcnkgdmcbaaGreatDoorProg
import Derived.Test.YtpibbcnkgdmcbaaGreatDoorUses12
import Derived.Test.YtpibbcnkgdmcbaaGreatDoorKeeps12
import Derived.Test.YtpibbcnkgdmcbaaGreatDoorQlands12
import Derived.Test.YtpibbcnkgdmcbaaGreatDoorHeapCl
import Derived.Test.YtpibbcnkgdmcbaaGreatDoorSegs12
import Derived.Test.YtpibbcnkgdmcbaaGreatDoorOwn11
import Derived.Test.YtpibbcnkgdmcbaaGreatDoorAct12
set_option linter.unusedVariables false
set_option maxRecDepth 100000
set_option maxHeartbeats 8000000
namespace Go.Proofs.YtpibbcnkgdmcbaaGreatDoor
open Go.Shelf
def IG:Go.Shelf.Ren:=⟨fun|10=>163|6=>181|n=>n,fun|22=>116|23=>65|25=>218|3=>3|4=>4|0=>0|n=>n,fun|n=>n⟩
theorem Xw:Go.Proofs.SlLaysH.n10 Tryz.prog IG:={
 mixed:=by kernel_rfl
 f6:=⟨Tryz.f181.name,by decide,Tryz.func181.trans (congrArg some (by kernel_rfl))⟩
 f10:=⟨Tryz.f163.name,by decide,Tryz.func163.trans (congrArg some (by kernel_rfl))⟩
 t0:=Tryz.underlying0
 a0:=Tryz.isAgg0
 z0:=Tryz.sizeOf0
 v0:=Tryz.zeroValue0
 t3:=Tryz.underlying3
 a3:=Tryz.isAgg3
 z3:=Tryz.sizeOf3
 v3:=Tryz.zeroValue3
 t4:=Tryz.underlying4
 a4:=Tryz.isAgg4
 z4:=Tryz.sizeOf4
 v4:=Tryz.zeroValue4
 t22:=Tryz.underlying116
 a22:=Tryz.isAgg116
 z22:=Tryz.sizeOf116
 v22:=Tryz.zeroValue116
 a23:=Tryz.isAgg65
 z23:=Tryz.sizeOf65
 t25:=Tryz.underlying218
 a25:=Tryz.isAgg218
 z25:=Tryz.sizeOf218
 v25:=Tryz.zeroValue218}
end Go.Proofs.YtpibbcnkgdmcbaaGreatDoor
namespace Go.Proofs.YtpibbcnkgdmcbaaGreatDoor.aD
open aC aG aF au aI aB
open aA (St reserve release)
def up (S:QR):QR:=⟨S.R.map (fun k=>k*1024),S.F.map (fun k=>k*1024)⟩
theorem rT {a b:Int} (h:a*1024=b*1024):a=b:=by omega
theorem yg {l:List Int} {k:Int}:k*1024∈l.map (fun k=>k*1024)↔k∈l:=by
 rw [List.mem_map];exact ⟨fun ⟨x,hx,e⟩=>by rw [←rT e];exact hx,fun h=>⟨k,h,rfl⟩⟩
theorem mJ (S:QR):(up S).all=S.all.map (fun k=>k*1024):=(List.map_append ..).symm
theorem mW {S:QR} {k:Int}:k*1024∈(up S).all↔k∈S.all:=by rw [mJ,yg]
theorem Bn (l:List Int) (k:Int):aB.out (l.map fun k=>k*1024) (k*1024)=(aB.out l k).map fun k=>k*1024:=by
 unfold aB.out;rw [List.filter_map]
 congr 1
 apply List.filter_congr;intro x _;by_cases e:x=k
 · subst e;simp
 · simp [e];intro h;exact e (rT h)
theorem Sk (S:QR) (k:Int):(bK (up S) [k*1024]).1=up (bK S [k]).1:=by
 by_cases h:k∈S.all
 · rw [gT h,gT (mW.2 h)]
 · rw [fB h,fB (fun x=>h (mW.1 x))]
   show QR.mk (S.R.map _++ [k*1024]) _=QR.mk ((S.R++ [k]).map _) _;rw [List.map_append];rfl
theorem tV (S:QR) (k:Int):(aX (up S) [k*1024]).1=up (aX S [k]).1:=by
 by_cases h:k∈S.all
 · rw [dW h,dW (mW.2 h)]
   show QR.mk (aB.out (S.R.map _) _) (aB.out (S.F.map _) _)=_;rw [Bn,Bn];rfl
 · rw [fO h,fO (fun x=>h (mW.1 x))]
theorem Sl (S:QR) (k:Int):(eO (up S) (k*1024)).1=up (eO S k).1:=by
 by_cases h:k∈S.R
 · rw [sM h,sM (yg.2 h)]
   show QR.mk (aB.out (S.R.map _) _) (S.F.map _++_)=QR.mk _ ((S.F++ [k]).map _);rw [Bn,List.map_append];rfl
 · rw [wU h,wU (fun x=>h (yg.1 x))]
theorem Sj (S:QR) (k:Int):(dK (up S) (k*1024)).1=up (dK S k).1:=by
 by_cases h:k∈S.F
 · rw [rz h,rz (show k*1024∈(up S).F from yg.2 h)]
   show QR.mk (S.R.map _++_) (aB.out (S.F.map _) _)=QR.mk ((S.R++ [k]).map _) _;rw [Bn,List.map_append];rfl
 · rw [show dK S k=(S,5) from if_neg h,show dK (up S) (k*1024)=(up S,5) from if_neg fun x=>h (yg.1 x)]
def less (S:QR) (l:List Int):QR:=⟨S.R.filter fun x=>decide (x∉l),S.F.filter fun x=>decide (x∉l)⟩
theorem kr (S:QR):less S []=S:=by
 have h: ∀l:List Int,l.filter (fun x=>decide (x∉([]:List Int)))=l:=fun l=>List.filter_eq_self.2 fun x _=>by simp
 obtain ⟨R,F⟩:=S;show QR.mk _ _=_;rw [h,h]
theorem Gu (S:QR) (k:Int):(aX S [k]).1=⟨aB.out S.R k,aB.out S.F k⟩:=by
 by_cases h:k∈S.all
 · rw [dW h]
 · rw [fO h]
   rw [dx,not_or] at h;rw [j_ h.1,j_ h.2]
theorem Ap (S:QR) (l:List Int) (k:Int):(aX (less S l) [k]).1=less S (l++ [k]):=by
 rw [Gu];unfold less aB.out;simp only [List.filter_filter];have e: ∀x:Int,(decide (x≠k)&&decide (x∉l))=decide (x∉l++ [k]):=fun x=>by
  by_cases h1:x=k<;>by_cases h2:x∈l<;>simp [h1,h2]
 simp only [e]
theorem yu {S:QR} {l m:List Int} (h: ∀x∈S.all,(x∈l↔x∈m)):less S l=less S m:=by
 unfold less;have h1:S.R.filter (fun x=>decide (x∉l))=S.R.filter fun x=>decide (x∉m):=List.filter_congr fun x hx=>by
  have:=h x (dx.2 (.inl hx));exact decide_eq_decide.2 (not_congr this)
 have h2:S.F.filter (fun x=>decide (x∉l))=S.F.filter fun x=>decide (x∉m):=List.filter_congr fun x hx=>by
  have:=h x (dx.2 (.inr hx));exact decide_eq_decide.2 (not_congr this)
 rw [h1,h2]
def oz (pl:Nat) (l:List Int):List Int:=l.filter fun k=>decide (k/16=(pl:Int))
theorem sP (X:SG): ∀(l:List bY) (Q:Nat→QR) (i:Nat),jB Q X l i=less (Q i) ((l.filter fun o=>decide (qi o.cls=i)).map fun o=>keyOf X o)
 | [],Q,i=>(kr _).symm
 |o::t,Q,i=>by
  show jB _ X t i=_;rw [sP X t];by_cases e:i=qi o.cls
  · rw [if_pos e,List.filter_cons_of_pos (by simp [e])]
    rw [show (aX (Q i) [keyOf X o]).1=less (Q i) [keyOf X o] by rw [←kr (Q i),Ap,kr];rfl];unfold less;simp only [List.filter_filter,List.map_cons];have e2: ∀(m:List Int) (x:Int),(decide (x∉m)&&decide (x∉ [keyOf X o]))=decide (x∉keyOf X o::m):=fun m x=>by
     by_cases h1:x=keyOf X o<;>by_cases h2:x∈m<;>simp [h1,h2]
    simp only [e2]
  · rw [if_neg e,List.filter_cons_of_neg (by simp;exact fun h=>e h.symm)]
theorem l5 {X:SG} {o:bY} (g:bX X) (ho:o∈X.L):keyOf X o/16=(X.pl:Int):=by
 have:=rX g ho;unfold keyOf iH;omega
theorem QV {H:HS} {X:SG} (g:aO H) (hX:X∈H.B) (i:Nat):jB H.Q X X.L i=less (H.Q i) (oz X.pl (H.Q i).all):=by
 rw [sP];refine yu fun x hx=> ?_;unfold oz;rw [List.mem_filter,List.mem_map];constructor
 · rintro ⟨o,ho,rfl⟩
   rw [List.mem_filter] at ho;exact ⟨hx,by simp [l5 (g.seg X hX).g ho.1]⟩
 · rintro ⟨h1,h2⟩
   obtain ⟨Y,hY,o,ho,h3,rfl⟩:=(g.mem i x).1 h1;have h4:=l5 (g.seg Y hY).g ho;have h5:Y.pl=X.pl:=by have:=of_decide_eq_true h2;omega
   have:=iI g.jK hY hX h5;subst this;exact ⟨o,List.mem_filter.2 ⟨ho,by simp [h3]⟩,rfl⟩
theorem IK {H:HS} (g:aO H) {pl:Nat} (h: ∀X∈H.B,X.pl=pl→X.L= []) (i:Nat):less (H.Q i) (oz pl (H.Q i).all)=H.Q i:=by
 rw [show less (H.Q i) (oz pl (H.Q i).all)=less (H.Q i) [] from yu fun x hx=>by
  refine ⟨fun hm=> ?_,fun hm=>(by cases hm)⟩;unfold oz at hm;rw [List.mem_filter] at hm;obtain ⟨Y,hY,o,ho,h3,rfl⟩:=(g.mem i x).1 hm.1;have h4:=l5 (g.seg Y hY).g ho;have h5:Y.pl=pl:=by have:=of_decide_eq_true hm.2;omega
  rw [h Y hY h5] at ho;cases ho]
 exact kr _
def jD (S:QR) (k:Int):QR:=(bK (aX S [k]).1 [k]).1
theorem JA {S:QR} {k:Int} (h:k∉S.all):jD S k=(bK S [k]).1:=by unfold jD;rw [fO h]
theorem Wo (S:QR) (k:Int):(bK (aX (up S) [k*1024]).1 [k*1024]).1=up (jD S k):=by
 rw [tV,Sk];rfl
def gQ (Q:Nat→QR) (X:SG):List bY→Nat→QR
 | []=>Q
 |o::t=>gQ (fun i=>if i=qi o.cls then jD (Q i) (keyOf X o) else Q i) X t
theorem u_ (X:SG): ∀(l:List bY) (Q:Nat→QR),(∀o∈l,∀i,keyOf X o∉(Q i).all)→(l.map fun o=>keyOf X o).Nodup→gQ Q X l=kQ Q X l
 | [],Q,_,_=>rfl
 |o::t,Q,h,hn=>by
  rw [List.map_cons,List.nodup_cons] at hn;show gQ _ X t=kQ _ X t;have e:(fun i=>if i=qi o.cls then jD (Q i) (keyOf X o) else Q i)=fun i=>if i=qi o.cls then (bK (Q i) [keyOf X o]).1 else Q i:=by
   funext i
   by_cases e:i=qi o.cls
   · rw [if_pos e,if_pos e,JA (h o (List.mem_cons_self ..) i)]
   · rw [if_neg e,if_neg e]
  rw [e];refine u_ X t _ (fun u hu i=> ?_) hn.2;by_cases e:i=qi o.cls
  · rw [if_pos e,mem_push]
    rintro (k|k)
    · exact h u (List.mem_cons_of_mem _ hu) i k
    · exact hn.1 (List.mem_map.2 ⟨u,hu,k⟩)
  · rw [if_neg e];exact h u (List.mem_cons_of_mem _ hu) i
theorem Np {H:HS} {X:SG} (g:aO H) (gX:GoodS X) (h: ∀Y∈H.B,Y.pl≠X.pl):gQ H.Q X X.L=kQ H.Q X X.L:=by
 refine u_ X X.L H.Q (fun o ho i hk=> ?_) ?_
 · obtain ⟨Y,hY,u,hu,_,e⟩:=(g.mem i _).1 hk
   have h1:=l5 gX.g ho;have h2:=l5 (g.seg Y hY).g hu;rw [e] at h1;exact h Y hY (by omega)
 · have hr:=gX.g.rise
   refine List.pairwise_map.2 (hr.imp_of_mem fun {a b} ha hb hab e=> ?_);have h1:=(gX.g.fit a ha).2.1;unfold keyOf iH at e;omega
end Go.Proofs.YtpibbcnkgdmcbaaGreatDoor.aD
namespace Go.Proofs.YtpibbcnkgdmcbaaGreatDoor
open Go.RowKit aC aF aG aI au aD aB aA
def Yg (f:Nat→Option Addr) (p q id:Nat) (v:Value):Array Value:=
 #[.pointer (f 0), .pointer (f 1), .pointer (f 2), .pointer (f 3), .pointer (f 4), .pointer (f 5), .pointer (f 6), .pointer (f 7), .pointer (f 8), .pointer (f 9), .pointer (f 10), .pointer (f 11), .pointer (f 12), .pointer (some ⟨p,0,none⟩), .pointer (some ⟨q,0,none⟩), .int .u64 (id:Int),v]
theorem J4 (f:Nat→Option Addr) (p q id:Nat) (v:Value) {i:Nat} (h:i<13):(Yg f p q id v)[i]? =some (.pointer (f i)):=by
 match i,h with
 |0,_=>rfl
 |1,_=>rfl
 |2,_=>rfl
 |3,_=>rfl
 |4,_=>rfl
 |5,_=>rfl
 |6,_=>rfl
 |7,_=>rfl
 |8,_=>rfl
 |9,_=>rfl
 |10,_=>rfl
 |11,_=>rfl
 |12,_=>rfl
 |n+13,h=>omega
theorem Qm {f:Nat→Option Addr} {p q id:Nat} {v:Value} {cs:Array Value} {i:Nat} {r:Option Addr} (h:i<13) (hs:cs.size=(Yg f p q id v).size) (hi:cs[i]? =some (.pointer r)) (ho: ∀j,j≠i→cs[j]? =(Yg f p q id v)[j]?):
 cs=Yg (fun j=>if j=i then r else f j) p q id v:=by
 apply Array.ext
 · rw [hs];rfl
 · intro j h1 h2
   have key:cs[j]? =(Yg (fun j=>if j=i then r else f j) p q id v)[j]? :=by
    by_cases e:j=i
    · subst e
      rw [hi,J4 _ _ _ _ _ h];show _=some (Value.pointer (if j=j then r else f j));rw [if_pos rfl]
    · rw [ho j e]
      by_cases h3:j<13
      · rw [J4 _ _ _ _ _ h3,J4 _ _ _ _ _ h3]
        show _=some (Value.pointer (if j=i then r else f j));rw [if_neg e]
      · have h4:j<17:=by rw [hs] at h1;exact h1
        match j,h3,h4 with
        |13,_,_=>rfl
        |14,_,_=>rfl
        |15,_,_=>rfl
        |16,_,_=>rfl
        |n+17,_,h4=>omega
   rw [Array.getElem?_eq_getElem h1,Array.getElem?_eq_getElem h2] at key;injection key
structure Hc (w:World) (h id p q:Nat) (f:Nat→Option Addr) (OQ:Nat→Nat→Prop) (v:Value) (S:List Nat) (Q:Nat→QR):Prop where
 blk:aV w h 118 (Yg f p q id v)
 qs: ∀i,i<13→PS w (f i) (OQ i) (up (Q i))
 nb: ∀i,i<13→ ¬OQ i h
 lt: ∀i,i<13→ ∀k,OQ i k→k<w.heap.size
 i64: ∀i,i<13→ ∀x∈(up (Q i)).all,gy x
 ap: ∀i j,i<13→j<13→i≠j→ ∀k,OQ i k→ ¬OQ j k
 vT:Vec Elem.ptrs w v (S.map fun s=>some ⟨s,0,none⟩)
 sg: ∀k,In v k→k≠h∧ ∀i,i<13→ ¬OQ i k
 num:1≤id∧id≤18446744073709551615
def Vm (h:Nat) (OQ:Nat→Nat→Prop) (v:Value) (k:Nat):Prop:=k=h∨(∃i,i<13∧OQ i k)∨In v k
section
variable {w w':World} {h id p q i:Nat} {f:Nat→Option Addr} {OQ:Nat→Nat→Prop} {v:Value} {S:List Nat} {Q:Nat→QR} {T:Nat→Prop}
theorem Hc.below (z:Hc w h id p q f OQ v S Q) {k:Nat} (hk:Vm h OQ v k):k<w.heap.size:=by
 rcases hk with rfl|⟨i,hi,hk⟩|hk
 · exact z.blk.lt
 · exact z.lt i hi k hk
 · exact z.vT.lt hk
theorem Hc.upd (z:Hc w h id p q f OQ v S Q) (u:aH T w w') (hT: ∀k,T k→ ¬Vm h OQ v k):Hc w' h id p q f OQ v S Q:=
 ⟨z.blk.upd u fun x=>hT h x (.inl rfl),fun i hi=>(z.qs i hi).upd u fun k hk x=>hT k hk (.inr (.inl ⟨i,hi,x⟩)),z.nb,fun i hi k hk=>Nat.lt_of_lt_of_le (z.lt i hi k hk) u.size,z.i64,z.ap,z.vT.upd u fun k hk x=>hT k x (.inr (.inr hk)),z.sg,z.num⟩
theorem Hc.grew (z:Hc w h id p q f OQ v S Q) (hb:Below w.heap.size w w'):Hc w' h id p q f OQ v S Q:=z.upd (ak hb) fun _ x=>x.elim
theorem Hc.queue (z:Hc w h id p q f OQ v S Q) (hi:i<13):o_ w h i (f i) (OQ i) (up (Q i)):=
 ⟨⟨_,_,z.blk,J4 f p q id v hi⟩,z.qs i hi,z.nb i hi,z.lt i hi,z.i64 i hi⟩
theorem Hc.turn (z:Hc w h id p q f OQ v S Q) (hi:i<13) {r:Option Addr} {O':Nat→Prop} {S':QR} (k:o_ w' h i r O' (up S')) (hO: ∀k,O' k→OQ i k∨w.heap.size≤k) (u:dA (OQ i) (zy h i) w w'):
 Hc w' h id p q (fun j=>if j=i then r else f j) (fun j=>if j=i then O' else OQ j) v S (fun j=>if j=i then S' else Q j):=by
 obtain ⟨cs,hb,hs,ho⟩:=u.blk h (z.nb i hi) _ _ z.blk;have hc:=k.c.c;rw [hb.cell] at hc;have e:=Qm hi hs hc fun j hj=>ho j fun x=>hj x.2;rw [e] at hb;have ou: ∀j,j<13→j≠i→ ∀k,(OQ i k∨ ∃x,zy h i k x)→ ¬OQ j k:=fun j hj hne k hk hk2=>by
  rcases hk with hk|⟨x,hk,_⟩
  · exact z.ap i j hi hj (fun e=>hne e.symm) k hk hk2
  · rw [hk] at hk2;exact z.nb j hj hk2
 refine ⟨hb,fun j hj=> ?_,fun j hj=> ?_,fun j hj x hx=> ?_,fun j hj=> ?_,fun a b ha hb2 hab x hx hy=> ?_, ?_,fun x hx=>⟨(z.sg x hx).1,fun j hj hx2=> ?_⟩,z.num⟩
 · show PS w' (if j=i then r else f j) (if j=i then O' else OQ j) (up (if j=i then S' else Q j))
   by_cases e:j=i
   · rw [if_pos e,if_pos e,if_pos e];exact k.ps
   · rw [if_neg e,if_neg e,if_neg e];exact (z.qs j hj).upd u.upd (ou j hj e)
 · show ¬(if j=i then O' else OQ j) h
   by_cases e:j=i
   · rw [if_pos e];exact k.nb
   · rw [if_neg e];exact z.nb j hj
 · change (if j=i then O' else OQ j) x at hx
   by_cases e:j=i
   · rw [if_pos e] at hx;exact k.lt x hx
   · rw [if_neg e] at hx;exact Nat.lt_of_lt_of_le (z.lt j hj x hx) u.upd.size
 · show ∀x∈(up (if j=i then S' else Q j)).all,gy x
   by_cases e:j=i
   · rw [if_pos e];exact k.i64
   · rw [if_neg e];exact z.i64 j hj
 · change (if a=i then O' else OQ a) x at hx
   change (if b=i then O' else OQ b) x at hy;by_cases ea:a=i
   · rw [if_pos ea] at hx
     by_cases eb:b=i
     · exact hab (ea.trans eb.symm)
     · rw [if_neg eb] at hy
       rcases hO x hx with hx|hx
       · exact z.ap i b hi hb2 (fun e=>eb e.symm) x hx hy
       · have:=z.lt b hb2 x hy;omega
   · rw [if_neg ea] at hx
     by_cases eb:b=i
     · rw [if_pos eb] at hy
       rcases hO x hy with hy|hy
       · exact z.ap i a hi ha (fun e=>ea e.symm) x hy hx
       · have:=z.lt a ha x hx;omega
     · rw [if_neg eb] at hy
       exact z.ap a b ha hb2 hab x hx hy
 · refine z.vT.upd u.upd fun x hx hk=> ?_
   rcases hk with hk|⟨y,hk,_⟩
   · exact (z.sg x hx).2 i hi hk
   · exact (z.sg x hx).1 hk
 · change (if j=i then O' else OQ j) x at hx2
   by_cases e:j=i
   · rw [if_pos e] at hx2
     rcases hO x hx2 with hy|hy
     · exact (z.sg x hx).2 i hi hy
     · have:=z.vT.lt hx;omega
   · rw [if_neg e] at hx2;exact (z.sg x hx).2 j hj hx2
theorem Hc.YC (z:Hc w h id p q f OQ v S Q) (hi:i<13) {O':Nat→Prop} (hO: ∀k,O' k→OQ i k∨w.heap.size≤k): ∀k,Vm h (fun j=>if j=i then O' else OQ j) v k→Vm h OQ v k∨w.heap.size≤k:=fun k hk=>by
 rcases hk with hk|⟨j,hj,hk⟩|hk
 · exact .inl (.inl hk)
 · change (if j=i then O' else OQ j) k at hk
   by_cases e:j=i
   · rw [if_pos e] at hk
     rcases hO k hk with hk|hk
     · exact .inl (.inr (.inl ⟨i,hi,hk⟩))
     · exact .inr hk
   · rw [if_neg e] at hk;exact .inl (.inr (.inl ⟨j,hj,hk⟩))
 · exact .inl (.inr (.inr hk))
end
def gI (w:World) (h:Nat) (O:Nat→Prop) (id p q:Nat) (S:List (Nat×SG)) (Q:Nat→QR):Prop:=
 ∃f OQ v,Hc w h id p q f OQ v (S.map fun s=>s.1) (fun i=>Q i)∧ ∀k,O k↔Vm h OQ v k
section
variable {w w':World} {h id p q i:Nat} {O O' T:Nat→Prop} {S S':List (Nat×SG)} {Q Q':Nat→QR}
theorem gI.Gi (z:gI w h O id p q S Q) (e:(S.map fun b=>(b.1,Gj b.2))=(S'.map fun b=>(b.1,Gj b.2))):gI w h O id p q S' Q:=by
 obtain ⟨f,OQ,v,hc,hO⟩:=z;have e2:(S.map fun s=>s.1)=S'.map fun s=>s.1:=by
  have:=congrArg (List.map fun x:Nat×(Nat×List (Nat×Nat×Int×Nat×Nat))=>x.1) e;rw [List.map_map,List.map_map] at this;exact this
 rw [e2] at hc;exact ⟨f,OQ,v,hc,hO⟩
theorem gI.upd (z:gI w h O id p q S Q) (u:aH T w w') (hT: ∀k,T k→ ¬O k):gI w' h O id p q S Q:=by
 obtain ⟨f,OQ,v,hc,hO⟩:=z;exact ⟨f,OQ,v,hc.upd u fun k hk x=>hT k hk ((hO k).2 x),hO⟩
theorem gI.num (z:gI w h O id p q S Q):O h∧(∀k,O k→k<w.heap.size)∧1≤id∧id≤18446744073709551615:=by
 obtain ⟨f,OQ,v,hc,hO⟩:=z;exact ⟨(hO h).2 (.inl rfl),fun k hk=>hc.below ((hO k).1 hk),hc.num⟩
end
end Go.Proofs.YtpibbcnkgdmcbaaGreatDoor
namespace Go.Proofs.YtpibbcnkgdmcbaaGreatDoor
open Go.RowKit aC aF aG aI au aD aB aA
theorem oL {w:World} (L:Lay w) {c:Int} (hc:dH c):Calls Tryz.prog 110 #[.int .i64 c] w fun e w'=>e= .returned (.bool (decide (0≤c∧c<12)))∧Below w.heap.size w w':=by
 by_cases h:0≤c∧c<12
 · rw [decide_eq_true h]
   obtain ⟨n,rfl⟩:=Int.eq_ofNat_of_zero_le h.1;have K:=Lib.hid (rG L n (by omega));obtain ⟨s,hs⟩: ∃s,aK n=s:=⟨_,rfl⟩;rw [hs] at K;clear h hc hs;go_enter Tryz.func110,Tryz.ntmps110
   go_wp2_with fail
   refine K.out.mono ?_;rintro e w1 ⟨rfl,hb⟩;have B:=Lib.hid hb;clear hb;go_wp2;go_ret;exact ⟨rfl,B.out⟩
 · rw [decide_eq_false h]
   have K:=Lib.hid (Jr (w:=w) c (by omega));clear h hc;go_enter Tryz.func110,Tryz.ntmps110
   go_wp2_with fail
   refine K.out.mono ?_;rintro e w1 ⟨rfl,hb⟩;have B:=Lib.hid hb;clear hb;go_wp2;go_ret;exact ⟨rfl,B.out⟩
def EvR (w:World) (v i:Value) (wr:World):Prop:=
 ∃t:Nat,t≤12∧i= .int .i64 (t:Int)∧Vec Elem.ints wr v (nG.take t)∧(∀k,In v k→w.heap.size≤k)∧Below w.heap.size w wr
theorem Nk (t:Nat) (h:t<12):nG.take (t+1)=nG.take t++ [(t:Int)]:=by
 have: ∀t:Fin 12,nG.take (t.1+1)=nG.take t.1++ [(t.1:Int)]:=by decide
 exact this ⟨t,h⟩
theorem Rl (t:Nat) (h:t≤12):(nG.take t).length=t:=by rw [List.length_take];show min t 13=t;omega
theorem AY (w:World):Calls Tryz.prog 99 #[] w fun e w'=> ∃v,e= .returned v∧Vec Elem.ints w' v nG∧(∀k,In v k→w.heap.size≤k)∧Below w.heap.size w w':=by
 obtain ⟨i0,hi,hz0,hz1,hz2⟩:=info_parts JY;have I0:=Lib.hid (show EvR w (.slice none 0 0) (.int .i64 0) w from ⟨0,by decide,rfl,Vec.nil _,(by intro k hk;cases hk),Below.refl _ _⟩);go_enter Tryz.func99,Tryz.ntmps99
 go_wp2;go_loopw [1,3] (fun v i wr=>EvR w v i wr) (fun _ i _=>12-(intOf i).toNat)
 case atStart=>exact I0.out
 case round=>
  clear I0;obtain ⟨t,ht,rfl,hv,hin,hb⟩:=hrel;obtain ⟨a',c',rfl,hc1,hc2⟩:=hv.slice';obtain ⟨T,hT⟩: ∃T,nG.take t=T:=⟨_,rfl⟩;have hTl:T.length=t:=by rw [←hT];exact Rl t ht
  rw [hT] at hv hin hc1⊢;rw [hTl] at hv hin hc1⊢;have HT:=Lib.hid hT;have V:=Lib.hid hv;have NI:=Lib.hid hin;have B:=Lib.hid hb;have HL:=Lib.hid hTl;clear hv hin hb hT hTl;by_cases Zf:t<12
  · have t1:decide ((t:Int)<12)=true:=decide_eq_true (by omega)
    go_wp2_with (at_builtin;refine bV (E:=Elem.ints) rfl (.tmp 6) (.tmp 8) 86 rfl 3 i0 (.int .i64 0) 8 Tryz.underlying86 hi hz0 hz1 hz2 rfl (.slice a' t c') (.slice (some ⟨wr.heap.size,0,none⟩) 1 1) T [(t:Int)] rfl rfl (V.out.alloc _) (Seq.new wr _ [(t:Int)] 1) ?_ ?_ ?_;(rw [HL.out];simp only [maxLen,List.length_cons,List.length_nil];omega);(rw [HL.out];simp only [List.length_cons,List.length_nil];omega);intro v8 w8 hv hu kF;have V8:=Lib.hid hv;have N8:=Lib.hid kF;have B8:=Lib.hid ((B.out.alloc B.out.size (.cells #[.int .i64 (t:Int)] 3)).trans (hu.below (fun k hk=>NI.out k hk) (by have:=B.out.size;rw [World.size_alloc];omega)));clear hv hu kF)
    have NX:Hid (EvR w v8 (.int .i64 ((t+1:Nat):Int)) w8):=Lib.hid ⟨t+1,Zf,rfl,by rw [Nk t Zf,HT.out];exact V8.out,fun k9 hk=>by
     rcases N8.out k9 hk with z|z
     · exact NI.out k9 z
     · rw [World.size_alloc] at z;have:=B.out.size;omega,B8.out⟩
    rw [show ((t+1:Nat):Int)=(t:Int)+1 by omega] at NX;go_roundw
    case rel=>exact NX.out
    case measure=>simp [intOf];omega
  · obtain rfl:t=12:=by omega
    have t1:decide (((12:Nat):Int)<12)=false:=by decide
    go_wp2_with (at_builtin;refine bV (E:=Elem.ints) rfl (.tmp 11) (.tmp 12) 86 rfl 3 i0 (.int .i64 0) 8 Tryz.underlying86 hi hz0 hz1 hz2 rfl (.slice a' 12 c') (.slice (some ⟨wr.heap.size,0,none⟩) 1 1) T [-1] rfl rfl (V.out.alloc _) (Seq.new wr _ [-1] 1) ?_ ?_ ?_;(rw [HL.out];simp only [maxLen,List.length_cons,List.length_nil];omega);(rw [HL.out];simp only [List.length_cons,List.length_nil];omega);intro v8 w8 hv hu kF;have V8:=Lib.hid hv;have N8:=Lib.hid kF;have B8:=Lib.hid ((B.out.alloc B.out.size (.cells #[.int .i64 (-1)] 3)).trans (hu.below (fun k hk=>NI.out k hk) (by have:=B.out.size;rw [World.size_alloc];omega)));clear hv hu kF)
    go_ret;refine ⟨v8,rfl, ?_,fun k9 hk=> ?_,B8.out⟩
    · have h:=V8.out
      rw [←HT.out] at h;exact h
    · rcases N8.out k9 hk with z|z
      · exact NI.out k9 z
      · rw [World.size_alloc] at z;have:=B.out.size;omega
theorem D_ {w:World} (L:Lay w) (h:Nat) {c:Nat} (hc:c<12):Calls Tryz.prog 100 #[.pointer (some ⟨h,0,none⟩), .int .i64 (c:Int)] w fun e w'=>e= .returned (.pointer (some ⟨h,c,none⟩))∧Below w.heap.size w w':=by
 have K:=Lib.hid (oL L (c:=(c:Int)) ⟨by omega,by omega⟩);rw [decide_eq_true (show 0≤(c:Int)∧(c:Int)<12 by omega)] at K;have q1:(0:Int)≤(c:Int):=by omega
 have q2:(c:Int)<12:=by omega
 clear L;go_enter Tryz.func100,Tryz.ntmps100
 go_wp2_with fail
 refine K.out.mono ?_;rintro e w1 ⟨rfl,hb⟩;have B:=Lib.hid hb;clear hb;go_wp2;go_ret;exact ⟨rfl,B.out⟩
theorem PI {w:World} (L:Lay w) (h:Nat):Calls Tryz.prog 100 #[.pointer (some ⟨h,0,none⟩), .int .i64 (-1)] w fun e w'=>e= .returned (.pointer (some ⟨h,12,none⟩))∧Below w.heap.size w w':=by
 have K:=Lib.hid (oL L (c:= -1) (by decide));rw [decide_eq_false (show ¬((0:Int)≤ -1∧(-1:Int)<12) by decide)] at K;clear L;go_enter Tryz.func100,Tryz.ntmps100
 go_wp2_with fail
 refine K.out.mono ?_;rintro e w1 ⟨rfl,hb⟩;have B:=Lib.hid hb;clear hb;go_wp2;go_ret;exact ⟨rfl,B.out⟩
theorem uh {w:World} (L:Lay w) (h:Nat) {c:Int} (h1: -1≤c) (h2:c≤11):Calls Tryz.prog 100 #[.pointer (some ⟨h,0,none⟩), .int .i64 c] w fun e w'=>e= .returned (.pointer (some ⟨h,qi c,none⟩))∧Below w.heap.size w w':=by
 by_cases hc:c<0
 · obtain rfl:c= -1:=by omega
   exact PI L h
 · obtain ⟨n,rfl⟩:=Int.eq_ofNat_of_zero_le (show 0≤c by omega)
   have e:qi (n:Int)=n:=by unfold qi;rw [if_neg (by omega),Int.toNat_natCast]
   rw [e];exact D_ L h (by omega)
theorem TY {w:World} (L:Lay w) (h:Nat) {c:Int} (hc:dH c) (hn:c< -1∨12≤c):Calls Tryz.prog 100 #[.pointer (some ⟨h,0,none⟩), .int .i64 c] w fun e w'=> ∃b,e= .returned (.pointer (some ⟨b,0,none⟩))∧w.heap.size≤b∧aV w' b 112 #[.pointer none]∧Below w.heap.size w w':=by
 have K:=Lib.hid (oL L hc);rw [decide_eq_false (show ¬(0≤c∧c<12) by omega)] at K;have t1:(c== -1)=false:=by rw [beq_eq_false_iff_ne];omega
 clear L hc hn;go_enter Tryz.func100,Tryz.ntmps100
 go_wp2_with fail
 refine K.out.mono ?_;rintro e w1 ⟨rfl,hb⟩;have B:=Lib.hid hb;clear hb;go_wp2;go_ret;exact ⟨w1.heap.size,rfl,B.out.size,aV.new w1 _ _,B.out.alloc B.out.size _⟩
theorem rR {w:World} {Int':Vl} {sp p g:Nat} {I:Nat→Prop} {c:Addr} {L:List Nat} {X:SG} {o:bY} (h:Sg Int' w sp p g I c L X) (ho:o∈X.L):
 Calls Tryz.prog 145 #[.pointer (some ⟨o.op,0,none⟩)] w fun e w'=>e= .returned (.int .i64 (aD.keyOf X o*1024))∧Below w.heap.size w w':=by
 have c0:w.cell? ⟨o.op,0,none⟩=some (.pointer (some ⟨o.pp,0,none⟩)):=(h.own o ho).cell 0;have ef:aD.keyOf X o*1024=(o.P.f:Int):=by
  rw [(h.good.within ho).1];unfold aD.keyOf iH aL;omega
 rw [ef];have K:=Lib.hid (GK w (h.pg o ho).1);obtain ⟨f,hf⟩: ∃f,o.P.f=f:=⟨_,rfl⟩;obtain ⟨s,hs⟩: ∃s,o.P.s=s:=⟨_,rfl⟩;obtain ⟨n,hn⟩: ∃n,o.P.n=n:=⟨_,rfl⟩;have hf2:f≤1048576:=by
  have:=oK ⟨h.good,h.pl,h.pps⟩ ho;omega
 rw [hf,hs,hn] at K;rw [hf];have cv:IntKind.i64.wrap (f:Int)=(f:Int):=IntWalk.i64_in _ ⟨by omega,by omega⟩;obtain ⟨op,hop⟩: ∃op,o.op=op:=⟨_,rfl⟩;obtain ⟨pp,hpp⟩: ∃pp,o.pp=pp:=⟨_,rfl⟩;rw [hop,hpp] at c0;rw [hpp] at K;rw [hop];clear h ho ef hf hs hn hop hpp;unfold iW at K;have hfd: ∀w,(Instr.field 96 (.agg #[.int .u64 (f:Int), .int .u64 (s:Int), .int .i64 (n:Int)]) 0).run Tryz.prog w= .ok (.int .u64 (f:Int)) w:=fun w=>by kernel_rfl
 go_enter Tryz.func145,Tryz.ntmps145
 go_wp2_with fail
 refine K.out.mono ?_;rintro e w1 ⟨rfl,hb⟩;have B:=Lib.hid hb;clear hb;go_wp2;go_ret;exact ⟨rfl,B.out⟩
def tH (w:World) (b o:Nat) (O:Nat→Prop) (S':QR) (w':World):Prop:=
 ∃p' O',o_ w' b o p' O' S'∧(∀k,O' k→O k∨w.heap.size≤k)∧dA O (zy b o) w w'
theorem tH.of {w w1 w':World} {b o:Nat} {O O1:Nat→Prop} {S':QR} {a:Int} {e:Ending} (hO: ∀k,O1 k→O k∨w.heap.size≤k) (u:dA O (zy b o) w w1) (h:kM w1 b o O1 S' a e w'):
 e= .returned (.int .i64 a)∧tH w b o O S' w':=by
 obtain ⟨e1,p',O',k1,k2,k3⟩:=h;have us:=u.upd.size;refine ⟨e1,p',O',k1,fun x hx=> ?_,⟨u.upd.step k3.upd fun i hi=> ?_,fun x hx t cs hb=> ?_⟩⟩
 · rcases k2 x hx with h|h
   · exact hO x h
   · exact .inr (Nat.le_trans us h)
 · rcases hi with hi|hi
   · exact (hO i hi).imp .inl id
   · exact .inl (.inr hi)
 · obtain ⟨c1,b1,s1,e1⟩:=u.blk x hx t cs hb
   have hx1: ¬O1 x:=fun h=>by
    rcases hO x h with h|h
    · exact hx h
    · have:=hb.lt;omega
   obtain ⟨c2,b2,s2,e2⟩:=k3.blk x hx1 t c1 b1;exact ⟨c2,b2,s2.trans s1,fun i hi=>(e2 i hi).trans (e1 i hi)⟩
theorem dz {w:World} {K:Int} (hK:gy K) {w2:World} (h:w2=w.alloc (.cells #[.int .i64 K] 3)∨w2=(w.alloc (.cells #[.int .i64 K] 3)).drew):iF w2 (.slice (some ⟨w.heap.size,0,none⟩) 1 1) [K]∧Below w.heap.size w w2:=by
 have h1:iF (w.alloc (.cells #[.int .i64 K] 3)) (.slice (some ⟨w.heap.size,0,none⟩) 1 1) [K]:=iF.made w 3 [K] #[.int .i64 K] rfl 1 w.heap.size rfl rfl (by decide) (fun y hy=>by rw [List.mem_singleton.1 hy];exact hK);have h2:Below w.heap.size w (w.alloc (.cells #[.int .i64 K] 3)):=(Below.refl _ w).alloc (Nat.le_refl _) _;rcases h with rfl|rfl
 · exact ⟨h1,h2⟩
 · exact ⟨h1.grew (Below.refl _ _).drew,h2.drew⟩
section
variable {w w1 w2:World} {b o:Nat} {p:Option Addr} {O:Nat→Prop} {S:QR} {K:Int}
theorem JK (q:o_ w b o p O S) (hb:Below w.heap.size w w1):CY (.slice (some ⟨w1.heap.size,0,none⟩) 1 1) [K] fun k=>O k∨k=b:= .inr fun x hx hk=>by
 have e:=nu hx;have hs:=hb.size;rcases hk with hk|hk
 · have:=q.lt x hk;omega
 · have:=q.c.lt;omega
theorem xM (q:o_ w b o p O S) (hK:gy K) (hb:Below w.heap.size w w1) (h:w2=w1.alloc (.cells #[.int .i64 K] 3)∨w2=(w1.alloc (.cells #[.int .i64 K] 3)).drew):
 Calls Tryz.prog 113 #[.pointer (some ⟨b,o,none⟩), .slice (some ⟨w1.heap.size,0,none⟩) 1 1] w2 fun e w'=> ∃x:Int,e= .returned (.int .i64 x)∧tH w b o O (aX S [K]).1 w':=by
 obtain ⟨ha,hb2⟩:=dz hK h;have hb3:=ah hb hb.size hb2;exact (Ad w2 (q.upd (ak hb3) fun _ x=>x.elim) ha (JK q hb)).mono fun e w' k=>⟨_,tH.of (fun k=> .inl) (dA.kR hb3) k⟩
end
theorem TB {w:World} {b o:Nat} {p:Option Addr} {O:Nat→Prop} {S:QR} {k:Int} {op:Nat} (q:o_ w b o p O (up S)) (hm:S.all.length≤2000) (hk:0≤k∧k≤1023)
 (NUM: ∀w',dA O (zy b o) w w'→Calls Tryz.prog 145 #[.pointer (some ⟨op,0,none⟩)] w' fun e w2=>e= .returned (.int .i64 (k*1024))∧Below w'.heap.size w' w2):
 Calls Tryz.prog 119 #[.pointer (some ⟨b,o,none⟩), .pointer (some ⟨op,0,none⟩)] w fun e w'=>e= .returned (.tuple #[])∧tH w b o O (up (jD S k)) w':=by
 obtain ⟨K,hK⟩: ∃K,k*1024=K:=⟨_,rfl⟩;have Qw:gy K:=by rw [←hK];exact ⟨by omega,by omega⟩
 have hup:(bK (aX (up S) [K]).1 [K]).1=up (jD S k):=by rw [←hK];exact Wo S k
 have hl1:(up S).all.length≤2000:=by rw [mJ,List.length_map];exact hm
 have hl2:(aX (up S) [K]).1.all.length≤2000:=Nat.le_trans (xO _ _) hl1;rw [hK] at NUM;rw [←hup];obtain ⟨S1,hS1⟩: ∃S1,(aX (up S) [K]).1=S1:=⟨_,rfl⟩;obtain ⟨S2,hS2⟩: ∃S2,(bK S1 [K]).1=S2:=⟨_,rfl⟩;rw [hS1] at hl2⊢;rw [hS2];have N0:=Lib.hid (NUM w.drew (dA.kR (Below.refl _ w).drew));have R1:Hid (∀w1 w2,Below w.heap.size w w1→(w2=w1.alloc (.cells #[.int .i64 K] 3)∨w2=(w1.alloc (.cells #[.int .i64 K] 3)).drew)→Calls Tryz.prog 113 #[.pointer (some ⟨b,o,none⟩), .slice (some ⟨w1.heap.size,0,none⟩) 1 1] w2 fun e w'=> ∃x:Int,e= .returned (.int .i64 x)∧tH w b o O S1 w'):=Lib.hid fun w1 w2 h1 h2=>by
  have:=xM q Qw h1 h2;rw [hS1] at this;exact this
 have N2:Hid (∀wa,tH w b o O S1 wa→Calls Tryz.prog 145 #[.pointer (some ⟨op,0,none⟩)] wa.drew fun e w2=>e= .returned (.int .i64 K)∧Below wa.heap.size wa w2):=Lib.hid fun wa ⟨p',O',k1,k2,k3⟩=>
  (NUM wa.drew (k3.trans (dA.kR (Below.refl _ wa).drew))).mono fun e w2 ⟨e1,e2⟩=>⟨e1,(Below.refl _ wa).drew.trans e2⟩
 have R2:Hid (∀wa w1 w2,tH w b o O S1 wa→Below wa.heap.size wa w1→(w2=w1.alloc (.cells #[.int .i64 K] 3)∨w2=(w1.alloc (.cells #[.int .i64 K] 3)).drew)→Calls Tryz.prog 153 #[.pointer (some ⟨b,o,none⟩), .slice (some ⟨w1.heap.size,0,none⟩) 1 1] w2 fun e w'=> ∃x:Int,e= .returned (.int .i64 x)∧tH w b o O S2 w'):=Lib.hid fun wa w1 w2 ⟨p',O',k1,k2,k3⟩ h1 h2=>by
  obtain ⟨ha,hb2⟩:=dz Qw h2;have hb3:=ah h1 h1.size hb2;have:=Tz w2 (k1.upd (ak hb3) fun _ x=>x.elim) ha (JK k1 h1) (by show S1.all.length+1≤1000000;omega);rw [hS2] at this;exact this.mono fun e w' k=>⟨_,tH.of k2 (k3.trans (dA.kR hb3)) k⟩
 clear q hm hk NUM hK Qw hup hl1 hl2 hS1 hS2;go_enter Tryz.func119,Tryz.ntmps119
 go_wp2;go_region_held3 (fun _=>True) (trivial)
  (first
   |(go_at_call 145;(with_reducible refine N0.out.mono ?_);rintro e w1 ⟨rfl,hb⟩;have B1:=Lib.hid ((Below.refl _ w).drew.trans hb);clear hb)
   |(go_at_call 113;refine (R1.out w1 _ B1.out (by first|exact .inl rfl|exact .inr rfl)).mono ?_;rintro e w2 ⟨x2,rfl,hq⟩;have Q2:=Lib.hid hq;clear hq))
 go_wp2;go_region_held3 (fun _=>True) (trivial)
  (first
   |(go_at_call 145;(with_reducible refine (N2.out _ Q2.out).mono ?_);rintro e w3 ⟨rfl,hb⟩;have B3:=Lib.hid hb;clear hb)
   |(go_at_call 153;refine (R2.out w2 w3 _ Q2.out B3.out (by first|exact .inl rfl|exact .inr rfl)).mono ?_;rintro e w4 ⟨x4,rfl,hq⟩;have Q4:=Lib.hid hq;clear hq))
 go_wp2;refine bodyPost_end (results_none rfl _ _ _) rfl ?_;exact ⟨rfl,Q4.out⟩
end Go.Proofs.YtpibbcnkgdmcbaaGreatDoor
namespace Go.Proofs.YtpibbcnkgdmcbaaGreatDoor
open Go.RowKit aC aF aG aI au aD aB aA
structure Hr {w0:World} (C:fH w0) (w:World) (h:Nat) (O:Nat→Prop) (id p g q:Nat) (own:Nat→Prop) (L:List Nat) (A:St) (B R:List SB) (Q:Nat→QR):Prop where
 hp:gI w h O id p q (gM B) Q
 env:Env C w p g q own L A (B++R)
 ap: ∀k,O k→ ¬EO p g own (B++R) k
 lo: ∀k,O k∨EO p g own (B++R) k→w0.heap.size≤k
theorem gI.congr {w:World} {h id p q:Nat} {O:Nat→Prop} {S:List (Nat×SG)} {Q Q':Nat→QR} (z:gI w h O id p q S Q) (e: ∀i,i<13→Q i=Q' i):gI w h O id p q S Q':=by
 obtain ⟨f,OQ,v,hc,hO⟩:=z;exact ⟨f,OQ,v,⟨hc.blk,fun i hi=>by rw [←e i hi];exact hc.qs i hi,hc.nb,hc.lt,fun i hi=>by rw [←e i hi];exact hc.i64 i hi,hc.ap,hc.vT,hc.sg,hc.num⟩,hO⟩
section
variable {w0 w w':World} {C:fH w0} {h id p g q:Nat} {O own T:Nat→Prop} {L:List Nat} {A:St} {B R:List SB} {Q Q':Nat→QR}
theorem Hr.of (z:Hz C gI w h O id p g q own L A B R Q):Hr C w h O id p g q own L A B R Q:=⟨z.hp,z.env,z.ap,z.lo⟩
theorem Hr.to (z:Hr C w h O id p g q own L A B R Q) (g':aO (aN B Q)):Hz C gI w h O id p g q own L A B R Q:=⟨z.hp,z.env,g',z.ap,z.lo⟩
theorem Hr.upd (z:Hr C w h O id p g q own L A B R Q) (u:aH T w w') (hT: ∀k,T k→ ¬O k∧ ¬EO p g own (B++R) k):Hr C w' h O id p g q own L A B R Q:=
 ⟨z.hp.upd u fun k hk=>(hT k hk).1,z.env.upd u fun k hk=>(hT k hk).2,z.ap,z.lo⟩
theorem Hr.grew (z:Hr C w h O id p g q own L A B R Q) (hb:Below w.heap.size w w'):Hr C w' h O id p g q own L A B R Q:=z.upd (ak hb) fun _ x=>x.elim
theorem Hr.drew (z:Hr C w h O id p g q own L A B R Q):Hr C w.drew h O id p g q own L A B R Q:=z.grew (Below.refl _ _).drew
theorem Hr.congr (z:Hr C w h O id p g q own L A B R Q) (e: ∀i,i<13→Q i=Q' i):Hr C w h O id p g q own L A B R Q':=⟨z.hp.congr e,z.env,z.ap,z.lo⟩
theorem Hr.row (z:Hr C w h O id p g q own L A B R Q): ∃a cap,w.cell? ⟨h,16,none⟩=some (.slice a B.length cap)∧B.length≤cap∧cap≤9223372036854775807∧(∀w',Below w.heap.size w w'→ ∀t b,B[t]? =some b→ ∃bk off,a=some ⟨bk,off,none⟩∧w'.cell? ⟨bk,off+t,none⟩=some (.pointer (some ⟨b.sp,0,none⟩)))∧
 w.cell? ⟨h,13,none⟩=some (.pointer (some ⟨p,0,none⟩))∧w.cell? ⟨h,14,none⟩=some (.pointer (some ⟨q,0,none⟩))∧w.cell? ⟨h,15,none⟩=some (.int .u64 (id:Int)):=by
 obtain ⟨f,OQ,v,hc,hO⟩:=z.hp;obtain ⟨a,cap,rfl,h1,h2⟩:=hc.vT.slice';have el:(List.map (fun s:Nat=>(some ⟨s,0,none⟩:Option Addr)) (List.map (fun s=>s.1) (gM B))).length=B.length:=by unfold gM;simp
 rw [el] at h1;have Uo:=hc.vT.seq;have c16:w.cell? ⟨h,16,none⟩=some (.slice a (List.map (fun s:Nat=>(some ⟨s,0,none⟩:Option Addr)) (List.map (fun s=>s.1) (gM B))).length cap):=hc.blk.cell 16;rw [el] at c16 Uo;refine ⟨a,cap,c16,h1,h2,fun w' hb t b ht=> ?_,hc.blk.cell 13,hc.blk.cell 14,hc.blk.cell 15⟩;have hs2:=Uo.upd (ak hb) fun _ _ x=>x;obtain ⟨bk,off,ea,hcell⟩:=hs2.elem (i:=t) (x:=some ⟨b.sp,0,none⟩) (by unfold gM;simp [ht]);refine ⟨bk,off,ea, ?_⟩;have:=hcell 0 (.pointer (some ⟨b.sp,0,none⟩)) rfl
 simpa [Elem.ptrs] using this
theorem Hr.sg (z:Hr C w h O id p g q own L A B R Q) {b:SB} (hb:b∈B):Sg C.Int' w b.sp p g b.I b.c L b.X:=z.env.dJ.sg b (List.mem_append_left _ hb)
theorem Hr.jK (z:Hr C w h O id p g q own L A B R Q):(B.map fun b=>b.X.pl).Nodup:=by
 have:=z.env.dJ.nd;rw [List.map_append,List.nodup_append] at this;exact this.1
end
theorem yT {X:SG} {a:Nat} {o:bY} (h:bJ X a=some o):mq X a=0:=by
 unfold bJ at h;unfold mq;split at h
 · cases h
 · rename_i hn
   rw [if_neg hn,h];rfl
theorem yU {X:SG} {a:Nat} (h:bJ X a=none):mq X a=3∨mq X a=5:=by
 unfold bJ at h;unfold mq;split at h
 · rename_i hn
   rw [if_pos hn];exact .inl rfl
 · rename_i hn
   rw [if_neg hn,h];exact .inr rfl
def jI (B:List SB) (a:Nat):Option (SB×bY):=B.findSome? fun b=>(bJ b.X a).map fun o=>(b,o)
theorem wT (B:List SB) (Q:Nat→QR) (a:Nat):dO (aN B Q) a=(jI B a).map fun z=>(z.1.X,z.2):=by
 unfold dO jI aN
 induction B with
 |nil=>rfl
 |cons b t ih=>
  rw [List.map_cons,List.findSome?_cons,List.findSome?_cons];cases bJ b.X a with
  |none=>exact ih
  |some o=>rfl
theorem yV {B:List SB} {a:Nat} {b:SB} {o:bY} (h:jI B a=some (b,o)):b∈B∧bJ b.X a=some o:=by
 obtain ⟨Y,hY,e⟩:=List.exists_of_findSome?_eq_some h;obtain ⟨u,hu,e⟩:=Option.map_eq_some_iff.1 e;cases e;exact ⟨hY,hu⟩
theorem QG {B:List SB} (hn:(B.map fun b=>b.X.pl).Nodup) {b:SB} (hb:b∈B) {a:Nat} {o:bY} (h:bJ b.X a=some o):jI B a=some (b,o):=by
 induction B with
 |nil=>cases hb
 |cons y t ih=>
  rw [List.map_cons,List.nodup_cons] at hn;unfold jI;rw [List.findSome?_cons];rcases List.mem_cons.1 hb with rfl|hb
  · rw [h];rfl
  · cases hy:bJ y.X a with
    |none=>exact ih hn.2 hb
    |some u=>
     have h1:=gW hy;have h2:=gW h;exact absurd (List.mem_map.2 ⟨b,hb,by omega⟩) hn.1
theorem xE {α:Type} {l:List α} {t:Nat} {x:α} (h:l[t]? =some x):l=l.take t++x::l.drop (t+1):=by
 have e:=List.take_append_drop t l;rw [List.drop_eq_getElem?_toList_append,h] at e;exact e.symm
theorem Im {B:List SB} {a t:Nat} {b:SB} (h: ∀x∈B.take t,bJ x.X a=none) (hb:B[t]? =some b):jI B a=if (bJ b.X a).isSome then (bJ b.X a).map fun o=>(b,o) else jI (B.drop (t+1)) a:=by
 have e:B=B.take t++b::B.drop (t+1):=xE hb;have h1:(B.take t).findSome? (fun b=>(bJ b.X a).map fun o=>(b,o))=none:=List.findSome?_eq_none_iff.2 fun x hx=>by rw [h x hx];rfl
 unfold jI
 conv=>lhs;rw [e]
 rw [List.findSome?_append,h1,List.findSome?_cons];cases bJ b.X a with
 |none=>rfl
 |some o=>rfl
theorem Io {B:List SB} {a:Nat} (h: ∀x∈B,bJ x.X a=none):jI B a=none:=List.findSome?_eq_none_iff.2 fun x hx=>by rw [h x hx];rfl
theorem tY {α:Type} {B:List α} {t:Nat} {b:α} (hb:B[t]? =some b) {P:α→Prop} (h: ∀x∈B.take t,P x) (hp:P b): ∀x∈B.take (t+1),P x:=fun x hx=>by
 rw [List.take_add_one,hb] at hx;rcases List.mem_append.1 hx with hx|hx
 · exact h x hx
 · rw [List.mem_singleton.1 hx];exact hp
def Ls (b:Option SB):Value:= .pointer (b.map fun b=>⟨b.sp,0,none⟩)
def Yu (w:World) (P:SB→Prop) (B:List SB) (i:Value) (wr:World):Prop:= ∃t:Nat,t≤B.length∧i= .int .i64 (t:Int)∧(∀x∈B.take t,P x)∧Below w.heap.size w wr
section
variable {w0 w w':World} {C:fH w0} {h id p g q:Nat} {O own T:Nat→Prop} {L:List Nat} {A:St} {B R:List SB} {Q Q':Nat→QR}
theorem oW (hw:Below w0.heap.size w0 w) (z:Hr C w h O id p g q own L A B R Q) {a:Nat} (ha:bM a):
 Calls Tryz.prog 128 #[.pointer (some ⟨h,0,none⟩), .int .u64 (a:Int)] w fun e w'=>e= .returned (.tuple #[Ls ((jI B a).map fun z=>z.1),GI ((jI B a).map fun z=>z.2)])∧Below w.heap.size w w':=by
 obtain ⟨av,cap,c16,hc1,hc2,hrow,-⟩:=z.row;have Z:=Lib.hid z;have HW:=Lib.hid hw;have HA:=Lib.hid ha;have ROW:=Lib.hid hrow;obtain ⟨n,hn⟩: ∃n,B.length=n:=⟨_,rfl⟩;rw [hn] at c16 hc1;have HN:=Lib.hid hn;obtain ⟨E,hE⟩: ∃E,jI B a=E:=⟨_,rfl⟩;rw [hE];have HE:=Lib.hid hE;have I0:=Lib.hid (show Yu w (fun b=>bJ b.X a=none) B (.int .i64 0) w from ⟨0,Nat.zero_le _,rfl,(fun x hx=>by simp at hx),Below.refl _ _⟩);clear z hw ha hrow hn hE;go_enter Tryz.func128,Tryz.ntmps128
 go_wp2;clear c16;go_loopw [15] (fun i wr=>Yu w (fun b=>bJ b.X a=none) B i wr) (fun i _=>n-(intOf i).toNat)
 case atStart=>exact I0.out
 case round=>
  clear I0;obtain ⟨t,ht,rfl,hall,hb⟩:=hrel;rw [HN.out] at ht;have Jk:=Lib.hid hall;have BB:=Lib.hid hb;by_cases htn:t<n
  · obtain ⟨b,hbt⟩: ∃b,B[t]? =some b:=⟨_,List.getElem?_eq_getElem (by rw [HN.out];exact htn)⟩
    obtain ⟨bk,off,rfl,d0⟩:=ROW.out wr hb t b hbt;have t2:decide ((t:Int)<(n:Int))=true:=decide_eq_true (by omega);have t2':decide (t<n)=true:=decide_eq_true htn;have q3:(0:Int)≤(t:Int):=by omega
    have q4:(t:Int)<(n:Int):=by omega
    have K:=Lib.hid (C.find wr (ah HW.out HW.out.size hb) ((Z.out.sg (List.mem_of_getElem? hbt)).grew hb) HA.out);have SK:=Im hall hbt;rw [HE.out] at SK;obtain ⟨sp,hsp⟩: ∃sp,b.sp=sp:=⟨_,rfl⟩;rw [hsp] at d0 K;have HBT:=Lib.hid hbt;cases hf:bJ b.X a with
    |none=>
     obtain ⟨er,her⟩: ∃er,mq b.X a=er:=⟨_,rfl⟩;have hne:er=3∨er=5:=by rw [←her];exact yU hf
     rw [hf,her] at K;unfold GI at K;have t3:(er==0)=false:=by rw [beq_eq_false_iff_ne];omega
     have HF:=Lib.hid hf;clear hall hb hbt hf her hne SK hsp;go_wp2_with fail
     refine K.out.mono ?_;rintro e w1 ⟨rfl,hb1⟩;have B1:=Lib.hid (ah BB.out BB.out.size hb1);clear hb1;go_wp2;go_roundw
     case rel=>exact ⟨t+1,by rw [HN.out];omega,by go_num,tY HBT.out Jk.out HF.out,B1.out⟩
     case measure=>simp [intOf];omega
    |some o=>
     rw [hf,yT hf] at K;rw [hf] at SK;change E=some (b,o) at SK;obtain ⟨op,hop⟩: ∃op,o.op=op:=⟨_,rfl⟩;have K':Hid (Calls Tryz.prog 67 #[.pointer (some ⟨sp,0,none⟩), .int .u64 (a:Int)] wr fun e w'=>e= .returned (.tuple #[.pointer (some ⟨op,0,none⟩), .int .i64 0])∧Below wr.heap.size wr w'):=by rw [←hop];exact K
     have FIN:Hid (Value.tuple #[.pointer (some ⟨sp,0,none⟩), .pointer (some ⟨op,0,none⟩)]= .tuple #[Ls (E.map fun z=>z.1),GI (E.map fun z=>z.2)]):=Lib.hid (by rw [SK,←hop,←hsp];rfl);clear hall hb hbt hf SK hsp hop K;go_wp2_with fail
     refine K'.out.mono ?_;rintro e w1 ⟨rfl,hb1⟩;have B1:=Lib.hid (ah BB.out BB.out.size hb1);clear hb1;go_wp2
     go_ret2
     rw [←FIN.out];exact ⟨rfl,B1.out⟩
  · obtain rfl:t=n:=by omega
    have t2:decide ((t:Int)<(t:Int))=false:=decide_eq_false (by omega);have e9:jI B a=none:=Io fun x hx=>hall x (by rw [←HN.out,List.take_length];exact hx);rw [HE.out] at e9;have FIN:Hid (Value.tuple #[.pointer none, .pointer none]= .tuple #[Ls (E.map fun z=>z.1),GI (E.map fun z=>z.2)]):=Lib.hid (by rw [e9];rfl);clear hall hb e9;go_wp2
    go_ret2
    rw [←FIN.out];exact ⟨rfl,BB.out⟩
theorem sW (hw:Below w0.heap.size w0 w) (z:Hr C w h O id p g q own L A B R Q) (pl:Int):
 Calls Tryz.prog 124 #[.pointer (some ⟨h,0,none⟩), .int .i64 pl] w fun e w'=>e= .returned (Ls (B.find? fun b=>decide ((b.X.pl:Int)=pl)))∧Below w.heap.size w w':=by
 obtain ⟨av,cap,c16,hc1,hc2,hrow,-⟩:=z.row;have Z:=Lib.hid z;have HW:=Lib.hid hw;have ROW:=Lib.hid hrow;obtain ⟨n,hn⟩: ∃n,B.length=n:=⟨_,rfl⟩;rw [hn] at c16 hc1;have HN:=Lib.hid hn;obtain ⟨E,hE⟩: ∃E,B.find? (fun b=>decide ((b.X.pl:Int)=pl))=E:=⟨_,rfl⟩;rw [hE];have HE:=Lib.hid hE;have I0:=Lib.hid (show Yu w (fun b=>(b.X.pl:Int)≠pl) B (.int .i64 0) w from ⟨0,Nat.zero_le _,rfl,(fun x hx=>by simp at hx),Below.refl _ _⟩);clear z hw hrow hn hE;go_enter Tryz.func124,Tryz.ntmps124
 go_wp2;clear c16;go_loopw [12] (fun i wr=>Yu w (fun b=>(b.X.pl:Int)≠pl) B i wr) (fun i _=>n-(intOf i).toNat)
 case atStart=>exact I0.out
 case round=>
  clear I0;obtain ⟨t,ht,rfl,hall,hb⟩:=hrel;rw [HN.out] at ht;have Jk:=Lib.hid hall;have BB:=Lib.hid hb;by_cases htn:t<n
  · obtain ⟨b,hbt⟩: ∃b,B[t]? =some b:=⟨_,List.getElem?_eq_getElem (by rw [HN.out];exact htn)⟩
    obtain ⟨bk,off,rfl,d0⟩:=ROW.out wr hb t b hbt;have t2:decide ((t:Int)<(n:Int))=true:=decide_eq_true (by omega);have t2':decide (t<n)=true:=decide_eq_true htn;have q3:(0:Int)≤(t:Int):=by omega
    have q4:(t:Int)<(n:Int):=by omega
    have K:=Lib.hid (C.place wr (ah HW.out HW.out.size hb) ((Z.out.sg (List.mem_of_getElem? hbt)).grew hb));obtain ⟨sp,hsp⟩: ∃sp,b.sp=sp:=⟨_,rfl⟩;obtain ⟨bp,hbp⟩: ∃bp,b.X.pl=bp:=⟨_,rfl⟩;rw [hsp] at d0 K;rw [hbp] at K;have HBT:=Lib.hid hbt;by_cases hp:(bp:Int)=pl
    · have eE:E=some b:=by
       rw [←HE.out,xE hbt,List.find?_append];rw [List.find?_eq_none.2 fun x hx=>by simpa using hall x hx,List.find?_cons_of_pos (by rw [hbp];simpa using hp)];rfl
      have FIN:Hid (Value.pointer (some ⟨sp,0,none⟩)=Ls E):=Lib.hid (by rw [eE,←hsp];rfl);subst hp;have t3:((bp:Int)==(bp:Int))=true:=by simp
      clear hall hb hbt hsp hbp eE;go_wp2_with fail
      refine K.out.mono ?_;rintro e w1 ⟨rfl,hb1⟩;have B1:=Lib.hid (ah BB.out BB.out.size hb1);clear hb1;go_wp2;go_ret;rw [←FIN.out];exact ⟨rfl,B1.out⟩
    · have t3:((bp:Int)==pl)=false:=by rw [beq_eq_false_iff_ne];exact hp
      have HP:=Lib.hid (show (b.X.pl:Int)≠pl by rw [hbp];exact hp);clear hall hb hbt hsp hbp hp;go_wp2_with fail
      refine K.out.mono ?_;rintro e w1 ⟨rfl,hb1⟩;have B1:=Lib.hid (ah BB.out BB.out.size hb1);clear hb1;go_wp2;go_roundw
      case rel=>exact ⟨t+1,by rw [HN.out];omega,by go_num,tY HBT.out Jk.out HP.out,B1.out⟩
      case measure=>simp [intOf];omega
  · obtain rfl:t=n:=by omega
    have t2:decide ((t:Int)<(t:Int))=false:=decide_eq_false (by omega);have e9:E=none:=by
     rw [←HE.out,List.find?_eq_none];intro x hx
     simpa using hall x (by rw [←HN.out,List.take_length];exact hx)
    have FIN:Hid (Value.pointer none=Ls E):=Lib.hid (by rw [e9];rfl);clear hall hb e9;go_wp2;go_ret;rw [←FIN.out];exact ⟨rfl,BB.out⟩
end
end Go.Proofs.YtpibbcnkgdmcbaaGreatDoor
namespace Go.Proofs.YtpibbcnkgdmcbaaGreatDoor
open Go.RowKit aC aF aG aI au aD aB aA
structure Hn {w0:World} (C:fH w0) (ws:World) (T:Nat→Prop) (w:World) (h:Nat) (O:Nat→Prop) (id p g q:Nat) (own:Nat→Prop) (L:List Nat) (A:St) (B R:List SB) (Q:Nat→QR):Prop where
 z:Hr C w h O id p g q own L A B R Q
 t: ∀k,O k→T k∨ws.heap.size≤k
 u:aH T ws w
 b:Below w0.heap.size w0 w
def iV (Q:Nat→QR) (i:Nat) (S:QR):Nat→QR:=fun j=>if j=i then S else Q j
theorem gI.sps {w:World} {h id p q:Nat} {O:Nat→Prop} {S S':List (Nat×SG)} {Q:Nat→QR} (z:gI w h O id p q S Q) (e:(S.map fun b=>b.1)=S'.map fun b=>b.1):gI w h O id p q S' Q:=by
 obtain ⟨f,OQ,v,hc,hO⟩:=z;rw [e] at hc;exact ⟨f,OQ,v,hc,hO⟩
section
variable {w0 ws w w':World} {C:fH w0} {h id p g q:Nat} {O own T:Nat→Prop} {L L' Y:List Nat} {A:St} {B R l r:List SB} {b b':SB} {Q Q':Nat→QR}
theorem acg {k:Nat} (hk:HO p g own O B k):O k∨EO p g own (B++R) k:=by
 rcases hk with hk|hk|hk|hk|⟨b,hb,hk⟩
 · exact .inl hk
 · exact .inr (.inl hk)
 · exact .inr (.inr (.inl hk))
 · exact .inr (.inr (.inr (.inl hk)))
 · exact .inr (.inr (.inr (.inr ⟨b,List.mem_append_left _ hb,hk⟩)))
theorem Hr.WQ (z:Hr C w h O id p g q own L A B R Q) {k:Nat} (hk:O k∨EO p g own (B++R) k):k<w.heap.size:=by
 rcases hk with hk|hk
 · exact z.hp.num.2.1 k hk
 · exact z.env.lt hk
theorem Hn.start (hb:Below w0.heap.size w0 w) (z:Hr C w h O id p g q own L A B R Q) (hT: ∀k,O k→T k):Hn C w T w h O id p g q own L A B R Q:=⟨z,fun k hk=> .inl (hT k hk),aH.refl _ _,hb⟩
theorem Hn.grew (n:Hn C ws T w h O id p g q own L A B R Q) (hb:Below w.heap.size w w'):Hn C ws T w' h O id p g q own L A B R Q:=
 ⟨n.z.grew hb,n.t,n.u.step (ak hb) fun _ x=>x.elim,ah n.b n.b.size hb⟩
theorem Hn.drew (n:Hn C ws T w h O id p g q own L A B R Q):Hn C ws T w.drew h O id p g q own L A B R Q:=n.grew (Below.refl _ _).drew
theorem Hn.congr (n:Hn C ws T w h O id p g q own L A B R Q) (e: ∀i,i<13→Q i=Q' i):Hn C ws T w h O id p g q own L A B R Q':=⟨n.z.congr e,n.t,n.u,n.b⟩
theorem Hn.then {w':World} {O' own':Nat→Prop} {L':List Nat} {A':St} {B' R':List SB} {Q':Nat→QR} (n:Hn C ws T w h O id p g q own L A B R Q) (k:Hn C w O w' h O' id p g q own' L' A' B' R' Q'):Hn C ws T w' h O' id p g q own' L' A' B' R' Q':=
 ⟨k.z,fun x hx=>by
  have:=n.u.size;rcases k.t x hx with e|e
  · exact n.t x e
  · exact .inr (by omega),n.u.step k.u n.t,k.b⟩
theorem Hn.queue (n:Hn C ws T w h O id p g q own L A B R Q) {i:Nat} (hi:i<13): ∃rr OQ,o_ w h i rr OQ (up (Q i))∧(∀k,OQ k→O k)∧O h∧ ∀w' S',tH w h i OQ (up S') w'→ ∃O',Hn C ws T w' h O' id p g q own L A B R (iV Q i S')∧(∀k,O' k→O k∨w.heap.size≤k)∧aH O w w':=by
 obtain ⟨f,OQ,v,hc,hO⟩:=n.z.hp;refine ⟨f i,OQ i,hc.queue hi,fun k hk=>(hO k).2 (.inr (.inl ⟨i,hi,hk⟩)),(hO h).2 (.inl rfl),fun w' S' ⟨p',O',k1,k2,k3⟩=> ?_⟩;have hOO: ∀k,OQ i k∨(∃j,zy h i k j)→O k:=fun k hk=>by
  rcases hk with hk|⟨j,e,_⟩
  · exact (hO k).2 (.inr (.inl ⟨i,hi,hk⟩))
  · rw [e];exact (hO h).2 (.inl rfl)
 have u:aH O w w':=k3.upd.mono hOO;have hc':=hc.turn hi k1 k2 k3;have ht:=hc.YC hi k2;have hnew: ∀k,Vm h (fun j=>if j=i then O' else OQ j) v k→O k∨w.heap.size≤k:=fun k hk=>(ht k hk).imp (fun x=>(hO k).2 x) fun x=>x;have hws:=n.u.size;refine ⟨Vm h (fun j=>if j=i then O' else OQ j) v,⟨⟨⟨_,_,_,hc',fun k=>Iff.rfl⟩,n.z.env.upd u fun k hk=>n.z.ap k hk,fun k hk he=> ?_,fun k hk=> ?_⟩,fun k hk=> ?_,n.u.step u n.t,n.b.trans (u.below (fun k hk=>n.z.lo k (.inl hk)) n.b.size)⟩,hnew,u⟩
 · rcases hnew k hk with x|x
   · exact n.z.ap k x he
   · have:=n.z.env.lt he;omega
 · rcases hk with hk|hk
   · rcases hnew k hk with x|x
     · exact n.z.lo k (.inl x)
     · have:=n.b.size;omega
   · exact n.z.lo k (.inr hk)
 · rcases hnew k hk with x|x
   · exact n.t k x
   · exact .inr (by omega)
theorem Hn.side (n:Hn C ws T w h O id p g q own L A B R Q) {OQ:Nat→Prop} {i:Nat} (hq: ∀k,OQ k→O k) (hh:O h) (u:dA OQ (zy h i) w w') (hb:b∈B):Sg C.Int' w' b.sp p g b.I b.c L b.X:=
 (n.z.env.upd u.upd fun k hk=>by
  rcases hk with hk|⟨j,e,_⟩
  · exact n.z.ap k (hq k hk)
  · rw [e];exact n.z.ap h hh).dJ.sg b (List.mem_append_left _ hb)
theorem Hn.seg {T':Nat→Prop} (n:Hn C ws T w h O id p g q own L A (l++b::r) R Q) (k:Sg C.Int' w' b'.sp p g b'.I b'.c L' b'.X) (hsp:b'.sp=b.sp) (hpl:b'.X.pl=b.X.pl) (u:aH T' w w') (hT: ∀x,T' x→BP b x∨x=p∨x=g)
 (ha:Agree L L' Y) (hY: ∀y∈Y,b.X.pl*16384≤y∧y+8≤b.X.pl*16384+16384) (hg: ∀x,BP b' x→BP b x∨w.heap.size≤x) (FX: ∀x,T' x→T x∨ws.heap.size≤x):Hn C ws T w' h O id p g q own L' A (l++b'::r) R Q:=by
 have jL:b∈(l++b::r)++R:=List.mem_append_left _ (List.mem_append_right _ (List.mem_cons_self ..));have ZG: ∀x,T' x→EO p g own ((l++b::r)++R) x:=fun x hx=>by
  rcases hT x hx with e|e|e
  · exact .inr (.inr (.inr ⟨b,jL,e⟩))
  · exact .inl e
  · exact .inr (.inl e)
 have hmem: ∀(m:List SB) a,a∈l++b'::m→a=b'∨a∈l++b::m:=fun m a ha=>by
  rcases List.mem_append.1 ha with ha|ha
  · exact .inr (List.mem_append_left _ ha)
  · rcases List.mem_cons.1 ha with e|ha
    · exact .inl e
    · exact .inr (List.mem_append_right _ (List.mem_cons_of_mem _ ha))
 have hE: ∀(m:List SB) x,EO p g own (l++b'::m) x→EO p g own (l++b::m) x∨w.heap.size≤x:=fun m x hx=>by
  rcases hx with e|e|e|⟨a,ha,e⟩
  · exact .inl (.inl e)
  · exact .inl (.inr (.inl e))
  · exact .inl (.inr (.inr (.inl e)))
  · rcases hmem m a ha with rfl|ha
    · rcases hg x e with e|e
      · exact .inl (.inr (.inr (.inr ⟨b,List.mem_append_right _ (List.mem_cons_self ..),e⟩)))
      · exact .inr e
    · exact .inl (.inr (.inr (.inr ⟨a,ha,e⟩)))
 have eL: ∀z:SB,(l++z::r)++R=l++z::(r++R):=fun z=>by rw [List.append_assoc,List.cons_append]
 have env:=n.z.env;rw [eL] at env;have env':=env.turn k hpl u hT ha hY hg;refine ⟨⟨gI.sps (n.z.hp.upd u fun x hx ho=>n.z.ap x ho (ZG x hx)) ?_,by rw [eL];exact env',fun x hx he=> ?_,fun x hx=> ?_⟩,n.t,n.u.step u FX,n.b.trans (u.below (fun x hx=>n.z.lo x (.inr (ZG x hx))) n.b.size)⟩
 · unfold gM
   simp [hsp]
 · rw [eL] at he
   rcases hE _ x he with e|e
   · exact n.z.ap x hx (by rw [eL];exact e)
   · have:=n.z.hp.num.2.1 x hx;omega
 · rcases hx with hx|hx
   · exact n.z.lo x (.inl hx)
   · rw [eL] at hx
     rcases hE _ x hx with e|e
     · exact n.z.lo x (.inr (by rw [eL];exact e))
     · have:=n.b.size;omega
end
theorem ze {X:SG} (g:bX X) {o:bY} (ho:o∈X.L): -1≤o.cls∧o.cls≤11:=by
 rcases g.cls o ho with ⟨e,_⟩|⟨c,hc,e,_⟩<;>omega
theorem Jy {c:Int} (h1: -1≤c) (h2:c≤11):qi c<13:=by unfold qi;split<;>omega
section
variable {w0 ws w w':World} {C:fH w0} {h id p g q:Nat} {O own T:Nat→Prop} {L L' Y:List Nat} {A:St} {B R l r:List SB} {b b':SB} {o:bY} {Q Q':Nat→QR}
theorem Pt (LY:Lay w0) (n:Hn C ws T w h O id p g q own L A B R Q) (hb:b∈B) (ho:o∈b.X.L):
 Calls Tryz.prog 112 #[.pointer (some ⟨h,0,none⟩), .int .i64 o.cls, .int .i64 (aD.keyOf b.X o*1024)] w fun e w'=>e= .returned (.pointer (some ⟨o.op,0,none⟩))∧Below w.heap.size w w':=by
 have hs:=n.z.sg hb;have hk:=oK ⟨hs.good,hs.pl,hs.pps⟩ ho;obtain ⟨K,hK⟩: ∃K:Nat,b.X.pl*16+o.lo=K:=⟨_,rfl⟩;have eK:aD.keyOf b.X o=(K:Int):=by rw [←hK];rfl
 rw [eK] at hk⊢;obtain ⟨a,ha⟩: ∃a:Nat,K*1024=a:=⟨_,rfl⟩;have eA:(K:Int)*1024=(a:Int):=by omega
 rw [eA];have hfit:=hs.good.fit o ho;have hf:jI B a=some (b,o):=QG n.z.jK hb (yS hs.good ho (by unfold aL;omega) (by unfold aL;omega));have FI:=Lib.hid (oW n.b n.z (a:=a) (show a≤18446744073709551615 by omega));rw [hf] at FI;change Hid (Calls _ _ _ _ fun e w'=>e= .returned (.tuple #[.pointer (some ⟨b.sp,0,none⟩), .pointer (some ⟨o.op,0,none⟩)])∧_) at FI;have NU:=Lib.hid (fun w2 (hb2:Below w.heap.size w w2)=>by
  have:=rR (hs.grew hb2) ho;rw [eK,eA] at this;exact this)
 have c1: ∀w2,Below w.heap.size w w2→w2.cell? ⟨o.op,1,none⟩=some (.int .i64 o.cls):=fun w2 hb2=>(hs.grew hb2|>.own o ho).cell 1;have C1:=Lib.hid c1;obtain ⟨op,hop⟩: ∃op,o.op=op:=⟨_,rfl⟩;obtain ⟨cls,hcls⟩: ∃cls,o.cls=cls:=⟨_,rfl⟩;rw [hop,hcls] at C1;rw [hop] at FI NU⊢;rw [hcls];have wA:IntKind.u64.wrap (a:Int)=(a:Int):=IntWalk.u64_in _ ⟨by omega,by omega⟩;have t3:(cls !=cls)=false:=by simp
 have t4:((a:Int) !=(a:Int))=false:=by simp
 clear hs hk eK eA hK ha hfit hf c1 hop hcls;go_enter Tryz.func112,Tryz.ntmps112
 go_wp2_with fail
 refine FI.out.mono ?_;rintro e w1 ⟨rfl,hb1⟩;have B1:=Lib.hid hb1;have d1:=C1.out w1 hb1;clear hb1;go_wp2_with fail
 refine (NU.out w1 B1.out).mono ?_;rintro e w2 ⟨rfl,hb2⟩;have B2:=Lib.hid (ah B1.out B1.out.size hb2);clear hb2;go_wp2;go_ret;exact ⟨rfl,B2.out⟩
theorem Df (LY:Lay w0) (n:Hn C ws T w h O id p g q own L A B R Q) (hb:b∈B) (ho:o∈b.X.L):
 Calls Tryz.prog 130 #[.pointer (some ⟨h,0,none⟩), .pointer (some ⟨o.op,0,none⟩)] w fun e w'=>e= .returned (.tuple #[])∧ ∃O',Hn C ws T w' h O' id p g q own L A B R (iV Q (qi o.cls) (dK (Q (qi o.cls)) (aD.keyOf b.X o)).1):=by
 have hs:=n.z.sg hb;have hk:=oK ⟨hs.good,hs.pl,hs.pps⟩ ho;have hc:=ze hs.good ho;obtain ⟨K,hK⟩: ∃K:Int,aD.keyOf b.X o*1024=K:=⟨_,rfl⟩;have Qw:gy K:=by rw [←hK];exact ⟨by omega,by omega⟩
 have OF:=Lib.hid (fun w2 (hb2:Below w.heap.size w w2)=>(uh (LY.below (ah n.b n.b.size hb2)) h hc.1 hc.2).mono fun e w' k=>show e= .returned (.pointer (some ⟨h,qi o.cls,none⟩))∧Below w.heap.size w w' from ⟨k.1,ah hb2 hb2.size k.2⟩);have NU:=Lib.hid (fun w2 (hb2:Below w.heap.size w w2)=>(rR (hs.grew hb2) ho).mono fun e w' k=>show e= .returned (.int .i64 K)∧Below w.heap.size w w' from ⟨by rw [←hK];exact k.1,ah hb2 hb2.size k.2⟩);obtain ⟨Q1,VQ⟩: ∃Q1,iV Q (qi o.cls) (dK (Q (qi o.cls)) (aD.keyOf b.X o)).1=Q1:=⟨_,rfl⟩;have WK:=Lib.hid (fun w2 (hb2:Below w.heap.size w w2)=>by
  obtain ⟨rr,OQ,k1,k2,k3,k4⟩:=(n.grew hb2).queue (Jy hc.1 hc.2);refine (Tx w2 k1 Qw).mono fun e w' k=>show (∃x:Int,e= .returned (.int .i64 x))∧(∃O',Hn C ws T w' h O' id p g q own L A B R Q1)∧w'.cell? ⟨o.op,1,none⟩=some (.int .i64 o.cls) from ?_;obtain ⟨e1,e2⟩:=tH.of (fun k=> .inl) (dA.refl _ _ w2) k;rw [←hK,Sj] at e2;obtain ⟨O',n',-⟩:=k4 w' _ e2;exact ⟨⟨_,e1⟩,⟨O',by rw [←VQ];exact n'⟩,((n'.z.sg hb).own o ho).cell 1⟩)
 have d1: ∀w2,Below w.heap.size w w2→w2.cell? ⟨o.op,1,none⟩=some (.int .i64 o.cls):=fun w2 hb2=>((hs.grew hb2).own o ho).cell 1;have D1:=Lib.hid d1;clear d1;rw [VQ];obtain ⟨op,hop⟩: ∃op,o.op=op:=⟨_,rfl⟩;obtain ⟨cls,hcls⟩: ∃cls,o.cls=cls:=⟨_,rfl⟩;rw [hop,hcls] at D1;rw [hop] at NU WK⊢;rw [hcls] at OF WK;have BB:=Lib.hid (Below.refl w.heap.size w);clear n hs hk hc hK Qw VQ hop hcls;go_enter Tryz.func130,Tryz.ntmps130
 go_wp2;go_region_held3 (fun w'=>w'.cell? ⟨op,1,none⟩=some (.int .i64 cls)) (first|exact D1.out _ BB.out|exact D1.out _ BB.out.drew|exact C2.out)
  (first
   |(go_at_call 100;(first|(with_reducible refine (OF.out _ BB.out.drew).mono ?_)|(with_reducible refine (OF.out _ BB.out).mono ?_));rintro e w1 ⟨rfl,hb⟩;have BB:=Lib.hid hb;clear hb)
   |(go_at_call 145;(first|(with_reducible refine (NU.out _ BB.out.drew).mono ?_)|(with_reducible refine (NU.out _ BB.out).mono ?_));rintro e w1 ⟨rfl,hb⟩;have BB:=Lib.hid hb;clear hb)
   |(go_at_call 157;(with_reducible refine (WK.out _ BB.out).mono ?_);rintro e w2 ⟨⟨x2,rfl⟩,hq,hc⟩;have Q2:=Lib.hid hq;have C2:=Lib.hid hc;clear hq hc))
 go_wp2;refine bodyPost_end (results_none rfl _ _ _) rfl ?_;exact ⟨rfl,Q2.out⟩
end
end Go.Proofs.YtpibbcnkgdmcbaaGreatDoor
namespace Go.Proofs.YtpibbcnkgdmcbaaGreatDoor
open Go.RowKit aC aF aG aI au aD aB aA
def lD (v:Value) (O:Nat→Prop) (w:World):Prop:= ∀k,In v k→ ¬O k∧k<w.heap.size
section
variable {v:Value} {O O':Nat→Prop} {w w':World} {l:List Int}
theorem lD.step (a:lD v O w) (hO: ∀k,O' k→O k∨w.heap.size≤k) (u:aH O w w'):lD v O' w':=fun k hk=>⟨fun h=>by
 rcases hO k h with x|x
 · exact (a k hk).1 x
 · have:=(a k hk).2;omega,Nat.lt_of_lt_of_le (a k hk).2 u.size⟩
theorem lD.grew (a:lD v O w) (hb:Below w.heap.size w w'):lD v O w':=fun k hk=>⟨(a k hk).1,Nat.lt_of_lt_of_le (a k hk).2 hb.size⟩
theorem iF.away (h:iF w v l) (a:lD v O w) (u:aH O w w'):iF w' v l:=h.upd u fun k hk=>(a k hk).1
theorem lD.new (hv: ∀k,In v k→w.heap.size≤k) (hlt: ∀k,In v k→k<w'.heap.size) (hO: ∀k,O k→k<w.heap.size):lD v O w':=fun k hk=>⟨fun h=>by have:=hO k h;have:=hv k hk;omega,hlt k hk⟩
end
def C8 (pl:Nat) (Q:Nat→QR) (t j:Nat):Nat→QR:=fun i=>if i<t then less (Q i) (oz pl (Q i).all) else if i=t then less (Q i) (oz pl ((Q i).all.take j)) else Q i
theorem QW (pl:Nat) (Q:Nat→QR):C8 pl Q 0 0=Q:=by
 funext i
 unfold C8;rw [if_neg (by omega)];split
 · rw [List.take_zero];exact kr _
 · rfl
theorem QX (pl:Nat) (Q:Nat→QR) (t:Nat):C8 pl Q t (Q t).all.length=C8 pl Q (t+1) 0:=by
 funext i
 unfold C8;by_cases h1:i<t
 · rw [if_pos h1,if_pos (by omega)]
 · rw [if_neg h1]
   by_cases h2:i=t
   · subst h2
     rw [if_pos rfl,if_pos (by omega),List.take_length]
   · rw [if_neg h2,if_neg (by omega)]
     split
     · rw [List.take_zero];exact (kr _).symm
     · rfl
theorem IL (pl:Nat) (Q:Nat→QR) (t j:Nat):C8 pl Q t j t=less (Q t) (oz pl ((Q t).all.take j)):=by
 unfold C8;rw [if_neg (by omega),if_pos rfl]
theorem Ea (pl:Nat) (l m:List Int):oz pl (l++m)=oz pl l++oz pl m:=List.filter_append ..
theorem UO {pl:Nat} {Q:Nat→QR} {t j:Nat} {k:Int} (hk:(Q t).all[j]? =some k) (h: ¬k/16=(pl:Int)):C8 pl Q t (j+1)=C8 pl Q t j:=by
 funext i
 unfold C8;split
 · rfl
 · split
   · rename_i e
     subst e;rw [List.take_add_one,hk,Ea,show oz pl (some k).toList= [] from List.filter_eq_nil_iff.2 fun x hx=>by
      rw [List.mem_singleton.1 hx];simpa using h,List.append_nil]
   · rfl
theorem UN {pl:Nat} {Q:Nat→QR} {t j:Nat} {k:Int} (hk:(Q t).all[j]? =some k) (h:k/16=(pl:Int)):iV (C8 pl Q t j) t (aX (C8 pl Q t j t) [k]).1=C8 pl Q t (j+1):=by
 funext i
 unfold iV;by_cases e:i=t
 · subst e
   rw [if_pos rfl,IL,Ap,IL,List.take_add_one,hk,Ea];rw [show oz pl (some k).toList= [k] from List.filter_eq_self.2 fun x hx=>by rw [List.mem_singleton.1 hx];simpa using h]
 · rw [if_neg e]
   unfold C8;rw [if_neg e,if_neg e]
section
variable {w0 ws w w':World} {C:fH w0} {h id p g q:Nat} {O own T:Nat→Prop} {L L' Y:List Nat} {A:St} {B R l r:List SB} {b b':SB} {o:bY} {Q Q':Nat→QR}
def ClO {w0:World} (C:fH w0) (ws:World) (T:Nat→Prop) (h id p g q:Nat) (own:Nat→Prop) (L:List Nat) (A:St) (B R:List SB) (Q:Nat→QR) (pl:Nat) (v:Value) (i:Value) (wr:World):Prop:=
 ∃(t:Nat) (O':Nat→Prop),t≤13∧i= .int .i64 (t:Int)∧Hn C ws T wr h O' id p g q own L A B R (C8 pl Q t 0)∧iF wr v nG∧lD v O' wr
def ClI {w0:World} (C:fH w0) (ws:World) (T:Nat→Prop) (h id p g q:Nat) (own:Nat→Prop) (L:List Nat) (A:St) (B R:List SB) (Q:Nat→QR) (pl:Nat) (v:Value) (t:Nat) (v2:Value) (l2:List Int) (m:Nat) (i:Value) (wr:World):Prop:=
 ∃(j:Nat) (O':Nat→Prop),j≤m∧i= .int .i64 (j:Int)∧Hn C ws T wr h O' id p g q own L A B R (C8 pl Q t j)∧(iF wr v nG∧lD v O' wr)∧iF wr v2 l2∧lD v2 O' wr
theorem Vi {t:Nat} (h:t<13): ∃c:Int,nG[t]? =some c∧ -1≤c∧c≤11∧qi c=t:=by
 have: ∀t:Fin 13,∃c:Int,nG[t.1]? =some c∧ -1≤c∧c≤11∧qi c=t.1:=by
  intro t
  match t with
  |⟨0,_⟩=>exact ⟨0,rfl,by decide,by decide,rfl⟩
  |⟨1,_⟩=>exact ⟨1,rfl,by decide,by decide,rfl⟩
  |⟨2,_⟩=>exact ⟨2,rfl,by decide,by decide,rfl⟩
  |⟨3,_⟩=>exact ⟨3,rfl,by decide,by decide,rfl⟩
  |⟨4,_⟩=>exact ⟨4,rfl,by decide,by decide,rfl⟩
  |⟨5,_⟩=>exact ⟨5,rfl,by decide,by decide,rfl⟩
  |⟨6,_⟩=>exact ⟨6,rfl,by decide,by decide,rfl⟩
  |⟨7,_⟩=>exact ⟨7,rfl,by decide,by decide,rfl⟩
  |⟨8,_⟩=>exact ⟨8,rfl,by decide,by decide,rfl⟩
  |⟨9,_⟩=>exact ⟨9,rfl,by decide,by decide,rfl⟩
  |⟨10,_⟩=>exact ⟨10,rfl,by decide,by decide,rfl⟩
  |⟨11,_⟩=>exact ⟨11,rfl,by decide,by decide,rfl⟩
  |⟨12,_⟩=>exact ⟨-1,rfl,by decide,by decide,rfl⟩
 exact this ⟨t,h⟩
theorem Ko: ∀x∈nG,gy x:=fun x hx=>by
 have: ∀x∈nG,-1≤x∧x≤11:=by decide
 have:=this x hx;exact ⟨by omega,by omega⟩
theorem M8 (LY:Lay w0) (n:Hn C ws T w h O id p g q own L A B R Q) {pl:Nat} (hpl:pl≤63) (hK: ∀i,i<13→ ∀k∈(Q i).all,0≤k∧k≤1023) (hlen: ∀i,i<13→(Q i).all.length≤1024):
 Calls Tryz.prog 165 #[.pointer (some ⟨h,0,none⟩), .int .i64 (pl:Int)] w fun e w'=>e= .returned (.tuple #[])∧ ∃O',Hn C ws T w' h O' id p g q own L A B R (fun i=>less (Q i) (oz pl (Q i).all)):=by
 have EV:=Lib.hid (AY w);have I0:Hid (∀v w1,Vec Elem.ints w1 v nG→(∀k,In v k→w.heap.size≤k)→Below w.heap.size w w1→ClO C ws T h id p g q own L A B R Q pl v (.int .i64 0) w1):=Lib.hid fun v w1 hv hin hb=>
  ⟨0,O,by decide,rfl,by rw [QW];exact n.grew hb,hv.arr Ko,lD.new hin (fun k hk=>hv.lt hk) (fun k hk=>n.z.WQ (.inl hk))⟩
 have HK:=Lib.hid hK;have HLEN:=Lib.hid hlen;have LYY:=Lib.hid LY;clear n hK hlen LY;go_enter Tryz.func165,Tryz.ntmps165
 go_wp2_with fail
 refine EV.out.mono ?_;rintro e w1 ⟨v,rfl,hv,hin,hb⟩;obtain ⟨av,cap,rfl,hc1,hc2⟩:=hv.slice';have I1:=Lib.hid (I0.out _ w1 hv hin hb);rw [show nG.length=13 from rfl] at hc1 I1⊢;clear hv hin hb I0 EV;go_wp2;go_loopw [11] (fun i wr=>ClO C ws T h id p g q own L A B R Q pl (.slice av 13 cap) i wr) (fun i _=>13-(intOf i).toNat)
 case atStart=>exact I1.out
 case round=>
  clear I1;obtain ⟨t,O1,ht,rfl,hn,har,haw⟩:=hrel;have N1:=Lib.hid hn;have AR:=Lib.hid har;have AW:=Lib.hid haw;by_cases EF:t<13
  · obtain ⟨c,hc,h1,h2,hqi⟩:=Vi EF
    obtain ⟨bk,off,y,ea,hy,hym,qK,d0⟩:=har.at (t:=t) (by show t<13;exact EF);have hyc:y=c:=by rw [hc] at hy;injection hy with e;exact e.symm
    subst hyc ea;have t2:decide ((t:Int)<13)=true:=decide_eq_true (by omega);have q3:(0:Int)≤(t:Int):=by omega
    have q4:(t:Int)<13:=by omega
    have OF:=Lib.hid (uh (LYY.out.below hn.b) h h1 h2);rw [hqi] at OF;obtain ⟨m,hm⟩: ∃m,(Q t).all.length=m:=⟨_,rfl⟩;have hm1:m≤1024:=by rw [←hm];exact HLEN.out t EF
    have HM:=Lib.hid hm;have AL:Hid (∀w2,Below wr.heap.size wr w2→Calls Tryz.prog 101 #[.pointer (some ⟨h,t,none⟩)] w2 fun e w'=> ∃a2 c2,e= .returned (.slice a2 m c2)∧m≤c2∧c2≤9223372036854775807∧ClI C ws T h id p g q own L A B R Q pl (.slice (some ⟨bk,off,none⟩) 13 cap) t (.slice a2 m c2) (up (Q t)).all m (.int .i64 0) w'):=Lib.hid fun w2 hb2=>by
     have n2:=N1.out.grew hb2;obtain ⟨rr,OQ,k1,k2,k3,k4⟩:=n2.queue EF;have e0:C8 pl Q t 0 t=Q t:=by rw [IL,List.take_zero];exact kr _
     rw [e0] at k1;have hl0:(up (Q t)).all.length=m:=by rw [mJ,List.length_map];exact hm
     refine (Gy w2 k1 (by rw [hl0];show m≤1000000;omega)).mono fun e w' ⟨v2,e1,⟨ha,hv⟩,hin,hb3⟩=> ?_;obtain ⟨a2,c2,rfl,hc3,hc4⟩:=ha.out;rw [hl0] at ha hv hin e1 hc3;have hb4:=ah hb2 hb2.size hb3;refine ⟨a2,c2,e1,hc3,hc4,0,O1,Nat.zero_le _,rfl,n2.grew hb3,⟨AR.out.grew hb4,AW.out.grew hb4⟩,ha,lD.new hin (fun k hk=>hv.lt hk) fun k hk=>n2.z.WQ (.inl hk)⟩
    clear hn har haw hc hy hym qK h1 h2 hqi hm;go_wp2_with fail
    refine OF.out.mono ?_;rintro e w2 ⟨rfl,hb2⟩;have K:=Lib.hid (AL.out w2 hb2);clear hb2;go_wp2_with fail
    refine K.out.mono ?_;rintro e w3 ⟨a2,c2,rfl,hc3,hc4,hi⟩;have I2:=Lib.hid hi;clear hi;go_wp2;go_loopw [23] (fun i wr=>ClI C ws T h id p g q own L A B R Q pl (.slice (some ⟨bk,off,none⟩) 13 cap) t (.slice a2 m c2) (up (Q t)).all m i wr) (fun i _=>m-(intOf i).toNat)
    case atStart=>exact I2.out
    case round=>
     clear I2;obtain ⟨j,O2,hj,rfl,hn,p8,Ml,EH⟩:=hrel;have N2:=Lib.hid hn;have AV:=Lib.hid p8;have AR2:=Lib.hid Ml;have AW2:=Lib.hid EH;by_cases hjm:j<m
     · obtain ⟨bk2,off2,y2,ea,hy,hym,qK,d2⟩:=Ml.at (t:=j) (by rw [mJ,List.length_map,HM.out];exact hjm)
       subst ea;obtain ⟨k,hk⟩: ∃k,(Q t).all[j]? =some k:=⟨_,List.getElem?_eq_getElem (by rw [HM.out];exact hjm)⟩;have hkm:=List.mem_of_getElem? hk;obtain ⟨kn,hkn⟩:=Int.eq_ofNat_of_zero_le (HK.out t EF k hkm).1;have hkn2:kn≤1023:=by have:=(HK.out t EF k hkm).2;omega
       subst hkn;rw [mJ,List.getElem?_map,hk] at hy;injection hy with hy
       change (kn:Int)*1024=y2 at hy;obtain ⟨fr,hfr⟩: ∃fr:Nat,kn*1024=fr:=⟨_,rfl⟩;have hy2:y2=(fr:Int):=by rw [←hy];omega
       subst hy2;obtain ⟨d,hd⟩: ∃d:Nat,fr/16384=d:=⟨_,rfl⟩;have q1:Int.tdiv (fr:Int) 16384=(d:Int):=by rw [←hd];exact (Int.ofNat_tdiv _ _).symm
       have ad3:d≤63:=by omega
       have hdk:(kn:Int)/16=(d:Int):=by omega
       have t4:decide ((j:Int)<(m:Int))=true:=decide_eq_true (by omega);have t4':decide (j<m)=true:=decide_eq_true hjm;have q5:(0:Int)≤(j:Int):=by omega
       have q6:(j:Int)<(m:Int):=by omega
       have HKK:=Lib.hid hk;by_cases hdp:d=pl
       · have t5:((d:Int)==(pl:Int))=true:=by rw [hdp];simp
         have RM:Hid (∀w2,w2=wr.alloc (.cells #[.int .i64 (fr:Int)] 3)→Calls Tryz.prog 113 #[.pointer (some ⟨h,t,none⟩), .slice (some ⟨wr.heap.size,0,none⟩) 1 1] w2 fun e w'=>(∃x:Int,e= .returned (.int .i64 x))∧ClI C ws T h id p g q own L A B R Q pl (.slice (some ⟨bk,off,none⟩) 13 cap) t (.slice (some ⟨bk2,off2,none⟩) m c2) (up (Q t)).all m (.int .i64 ((j+1:Nat):Int)) w'):=Lib.hid fun w2 hw2=>by
          obtain ⟨rr,OQ,k1,k2,k3,k4⟩:=N2.out.queue EF;refine (xM k1 (K:=(fr:Int)) ⟨by omega,by omega⟩ (Below.refl _ _) (.inl hw2)).mono fun e w' ⟨x,e1,e2⟩=>⟨⟨x,e1⟩, ?_⟩;rw [show (fr:Int)=(kn:Int)*1024 by omega,tV] at e2;obtain ⟨O',n',kO,kU⟩:=k4 w' _ e2;rw [UN HKK.out (by rw [hdk,hdp])] at n';exact ⟨j+1,O',hjm,rfl,n',⟨AV.out.1.away AV.out.2 kU,AV.out.2.step kO kU⟩,AR2.out.away AW2.out kU,AW2.out.step kO kU⟩
         rw [show ((j+1:Nat):Int)=(j:Int)+1 by omega] at RM;clear hn p8 Ml EH hy hym qK hkm hk hfr hd hdk hdp;go_wp2_with fail
         refine (RM.out _ rfl).mono ?_;rintro e w4 ⟨⟨x4,rfl⟩,hnx⟩;have NX:=Lib.hid hnx;clear hnx;go_wp2;go_roundw
         case rel=>exact NX.out
         case measure=>simp [intOf];omega
       · have t5:((d:Int)==(pl:Int))=false:=by rw [beq_eq_false_iff_ne];omega
         have NX:Hid (ClI C ws T h id p g q own L A B R Q pl (.slice (some ⟨bk,off,none⟩) 13 cap) t (.slice (some ⟨bk2,off2,none⟩) m c2) (up (Q t)).all m (.int .i64 ((j+1:Nat):Int)) wr):=Lib.hid ⟨j+1,O2,hjm,rfl,by rw [UO hk (by omega)];exact hn,p8,Ml,EH⟩;rw [show ((j+1:Nat):Int)=(j:Int)+1 by omega] at NX;clear hn p8 Ml EH hy hym qK hkm hk hfr hd hdk hdp;go_wp2;go_roundw
         case rel=>exact NX.out
         case measure=>simp [intOf];omega
     · obtain rfl:j=m:=by omega
       have t4:decide ((j:Int)<(j:Int))=false:=decide_eq_false (by omega);have NX:Hid (ClO C ws T h id p g q own L A B R Q pl (.slice (some ⟨bk,off,none⟩) 13 cap) (.int .i64 ((t+1:Nat):Int)) wr):=Lib.hid ⟨t+1,O2,EF,rfl,by rw [←QX,HM.out];exact hn,p8.1,p8.2⟩;rw [show ((t+1:Nat):Int)=(t:Int)+1 by omega] at NX;clear hn p8 Ml EH;go_wp2;go_roundw
       case rel=>exact NX.out
       case measure=>simp [intOf];omega
  · obtain rfl:t=13:=by omega
    have t2:decide (((13:Nat):Int)<13)=false:=by decide
    have FIN:Hid (∃O',Hn C ws T wr h O' id p g q own L A B R (fun i=>less (Q i) (oz pl (Q i).all))):=Lib.hid ⟨O1,hn.congr fun i hi=>by unfold C8;rw [if_pos hi]⟩;clear hn har haw;go_wp2;refine bodyPost_end (results_none rfl _ _ _) rfl ?_;exact ⟨rfl,FIN.out⟩
end
end Go.Proofs.YtpibbcnkgdmcbaaGreatDoor
namespace Go.Proofs.YtpibbcnkgdmcbaaGreatDoor
open Go.RowKit aC aF aG aI au aD aB aA
abbrev mG (w:World) (blk:Nat):Type:={x:Option Nat// ∀s,x=some s→s≠blk∧ ∃t cs,aV w s t cs}
instance (w:World) (blk:Nat):Inhabited (mG w blk):=⟨⟨none,fun s h=>by cases h⟩⟩
def zW {w:World} {blk:Nat} (x:mG w blk):Value:= .pointer (x.1.map fun s=>⟨s,0,none⟩)
theorem OI: ∃j,Tryz.prog.info? 174=some j∧j.size≠0:=by
 have hi:(Tryz.prog.info? 174).map (fun j=>decide (j.size=0))=some false:=by kernel_rfl
 cases hj:Tryz.prog.info? 174 with
 |none=>rw [hj] at hi;cases hi
 |some j=>
  rw [hj] at hi;simp only [Option.map_some,Option.some.injEq,decide_eq_false_iff_not] at hi;exact ⟨j,rfl,hi⟩
theorem UD (w:World) (x:Option Nat) (sp:Nat) (hs: ∃t cs,aV w sp t cs) (hx: ∀s,x=some s→ ∃t cs,aV w s t cs):
 (binOp .eql 65 (.pointer (x.map fun s=>⟨s,0,none⟩)) (.pointer (some ⟨sp,0,none⟩))).run Tryz.prog w= .ok (.bool (decide (x=some sp))) w:=by
 obtain ⟨j,hj,hj0⟩:=OI;cases x with
 |none=>
  have:decide ((none:Option Nat)=some sp)=false:=rfl;rw [this];have h: ∀d:Nat,(Op.equalIn (d+1) 65 (.pointer none) (.pointer (some ⟨sp,0,none⟩))).run Tryz.prog w= .ok false w:=fun d=>by
   simp [Op.equalIn,run_underlying Tryz.underlying65,sizeOf,typeInfo]
  show (binOp .eql 65 (.pointer none) (.pointer (some ⟨sp,0,none⟩))).run Tryz.prog w=_;simp only [binOp];simp [Op.equal,Op.maxDepth,h 9999]
 |some s=>
  by_cases e:s=sp
  · subst e
    rw [decide_eq_true rfl];exact run_eql_ptr_same w _ Tryz.underlying65 hj
  · rw [decide_eq_false (fun h=>e (Option.some.inj h))]
    obtain ⟨t,cs,hb⟩:=hx s rfl;obtain ⟨t2,cs2,hb2⟩:=hs;exact run_eql_ptr_other w (a:=⟨s,0,none⟩) (b:=⟨sp,0,none⟩) Tryz.underlying65 hj hj0 (fun h=>e (by injection h)) hb hb2
theorem Qd (W:World) (x:Option Nat) (sp bx:Nat) (hc:W.cell? ⟨bx,0,none⟩=some (.pointer (some ⟨sp,0,none⟩))) (hs: ∃t cs,aV W sp t cs) (hx: ∀s,x=some s→ ∃t cs,aV W s t cs):
 FnGives Tryz.prog 164 #[.pointer (some ⟨bx,0,none⟩)] #[.pointer (x.map fun s=>⟨s,0,none⟩)] (.bool (decide (x=some sp))) W:=by
 have EQ:=UD W x sp hs hx;obtain ⟨v,hv⟩: ∃v,x.map (fun s=>(⟨s,0,none⟩:Addr))=v:=⟨_,rfl⟩;obtain ⟨bb,hbb⟩: ∃bb,decide (x=some sp)=bb:=⟨_,rfl⟩;rw [hv,hbb] at EQ;rw [hv,hbb];clear hs hx hv hbb;show Calls Tryz.prog 164 #[.pointer v, .pointer (some ⟨bx,0,none⟩)] W _;go_enter Tryz.func164,Tryz.ntmps164
 go_wp2;go_ret;exact ⟨rfl,0,rfl⟩
section
variable {α:Type} [Inhabited α] {enc:α→Value} {w:World} {blk off m k:Nat} {dk:Array α} {os:Array Obj}
theorem vE (hk:k≠blk):(Sort.putRow enc (Sort.ahead w m) blk off dk).heap[k]? =w.heap[k]? :=by
 have e:blk≠k:=fun e=>hk e.symm;simp [Sort.putRow,Sort.mapBlock,Sort.ahead,Array.getElem?_modify,e]
theorem Ia (h:k<w.heap.size) (hk:k≠blk):(sortWorld enc w blk off m dk os).heap[k]? =w.heap[k]? :=by
 unfold sortWorld;rw [Sort.heap_grow_old _ os (by rw [Sort.size_putRow];exact h)];exact vE hk
theorem Ga:aH (fun k=>k=blk) w (Sort.putRow enc (Sort.ahead w m) blk off dk):=
 ⟨rfl,rfl,rfl,by rw [Sort.size_putRow];exact Nat.le_refl _,fun k _ hk=>vE hk⟩
end
theorem IE {w:World} {blk off cap sp bx:Nat} {S:List Nat} {n:Nat} (hn:n=S.length) (hv:Vec Elem.ptrs w (.slice (some ⟨blk,off,none⟩) n cap) (S.map fun s=>some ⟨s,0,none⟩)) (hS: ∀s∈S,s≠blk∧ ∃t cs,aV w s t cs) (hsp: ∃t cs,aV w sp t cs) (abr:sp≠blk)
 (hbx: ∃t,aV w bx t #[.pointer (some ⟨sp,0,none⟩)]) (hbb:bx≠blk):
 Calls Tryz.prog 163 #[.slice (some ⟨blk,off,none⟩) n cap, .func (.func 164) #[] #[.pointer (some ⟨bx,0,none⟩)]] w fun e w'=>
  ∃m,e= .returned (.slice (some ⟨blk,off,none⟩) m cap)∧m≤n∧Vec Elem.ptrs w' (.slice (some ⟨blk,off,none⟩) m cap) ((S.filter fun s=>decide (s≠sp)).map fun s=>some ⟨s,0,none⟩)∧aH (fun k=>k=blk) w w':=by
 subst hn;obtain ⟨tx,hbx⟩:=hbx;have eg: ∀args w,(callFunc 164 args).run Tryz.prog w= .ok (.enter 164 args) w:=enters_of Tryz.func164 (by kernel_rfl) rfl;have hv2:blk<w.heap.size∧S.length≤cap∧cap≤maxLen∧(∀j u,(Elem.ptrs.all (S.map fun s=>some ⟨s,0,none⟩))[j]? =some u→w.cell? ⟨blk,off+j,none⟩=some u)∧ ∀j,j<cap→(w.cell? ⟨blk,off+j,none⟩).isSome=true∧w.frozen? ⟨blk,off+j,none⟩=false:=by
  rcases hv with ⟨e,_⟩|⟨g,o,c,e,h1,h2,h3,h4,h5⟩
  · cases e
  · rw [List.length_map] at e h2
    injection e with e1 e2 e3
    injection e1 with e1
    injection e1 with e1 e4 _
    subst e1 e4 e3;exact ⟨h1,h2,h3,h4,fun j hj=>h5 j (by simpa [Elem.ptrs] using hj)⟩
 obtain ⟨k1,k2,k3,k4,k5⟩:=hv2;obtain ⟨d,hd1⟩: ∃d:Array (mG w blk),d.toList.map (fun x=>x.1)=S.map some:=by
  refine ⟨(S.attach.map fun x=>(⟨some x.1,fun s e=>by injection e with e;subst e;exact hS _ x.2⟩:mG w blk)).toArray, ?_⟩;rw [List.toList_toArray,List.map_map]
  conv=>rhs;rw [←List.attach_map_subtype_val S]
  rw [List.map_map];rfl
 have hd2:d.size=S.length:=by
  have h:=congrArg List.length hd1;rw [List.length_map,List.length_map,Array.length_toList] at h;exact h
 have VO: ∀(F:List (mG w blk)) (l:List Nat),F.map (fun x=>x.1)=l.map some→ ∀(j:Nat) (x:mG w blk),F[j]? =some x→ ∃s,l[j]? =some s∧zW x= .pointer (some ⟨s,0,none⟩):=fun F l h j x hx=>by
  have h1:(F.map fun x=>x.1)[j]? =(l.map some)[j]? :=by rw [h]
  rw [List.getElem?_map,List.getElem?_map,hx] at h1;cases hl:l[j]? with
  |none=>rw [hl] at h1;cases h1
  |some s=>
   rw [hl] at h1;injection h1 with h1
   change x.1=some s at h1;refine ⟨s,rfl, ?_⟩;unfold zW;rw [h1];rfl
 have hall: ∀l:List Nat,Elem.ptrs.all (l.map fun s=>some ⟨s,0,none⟩)=l.map fun s=>Value.pointer (some ⟨s,0,none⟩):=fun l=>by
  induction l with
  |nil=>rfl
  |cons x t ih=>rw [List.map_cons,Elem.all_cons,ih,List.map_cons];rfl
 have hH:Sort.Holds zW w blk off d:=fun j hj=>by
  refine ⟨?_,(k5 j (by omega)).2⟩;have h2:d.toList[j]? =some d[j]! :=by
   rw [Array.getElem?_toList,Array.getElem?_eq_getElem hj,getElem!_pos d j hj]
  obtain ⟨s,hs,e⟩:=VO d.toList S hd1 j _ h2;rw [e];refine k4 j _ ?_;rw [hall,List.getElem?_map,hs];rfl
 have hpa:PredAt Tryz.prog 164 #[.pointer (some ⟨bx,0,none⟩)] zW (fun x:mG w blk=>decide (x.1=some sp)) w:=fun W x hb=>by
  refine Qd W x.1 sp bx ?_ ?_ fun s hs=> ?_
  · have:=(hbx.grew hb).cell 0;exact this
  · obtain ⟨t,cs,h⟩:=hsp;exact ⟨t,cs,h.grew hb⟩
  · obtain ⟨_,t,cs,h⟩:=x.2 s hs;exact ⟨t,cs,h.grew hb⟩
 have hpo:PredOver Tryz.prog 164 #[.pointer (some ⟨bx,0,none⟩)] zW (fun x:mG w blk=>decide (x.1=some sp)) blk off d.size w:=fun m os dk x _=>by
  have kp: ∀k t cs,k≠blk→aV w k t cs→aV (sortWorld zW w blk off m dk os) k t cs:=fun k t cs hk h=>(Ia h.lt hk).trans h;refine Qd _ x.1 sp bx ?_ ?_ fun s hs=> ?_
  · have:=(kp bx _ _ hbb hbx).cell 0;exact this
  · obtain ⟨t,cs,h⟩:=hsp;exact ⟨t,cs,kp _ _ _ abr h⟩
  · obtain ⟨h1,t,cs,h⟩:=x.2 s hs;exact ⟨t,cs,kp _ _ _ h1 h⟩
 have hcon:=AnyE.slices_DeleteFunc Xw zW (fun _=>rfl) (fun x:mG w blk=>decide (x.1=some sp)) 164 #[.pointer (some ⟨bx,0,none⟩)] eg ⟨none,fun s h=>by cases h⟩ Tryz.zeroValue65 blk off cap d w hpa hpo hH (by simp only [maxLen] at k3;omega) (by omega);change Calls Tryz.prog 163 _ _ _ at hcon;rw [hd2] at hcon;obtain ⟨F,hF⟩: ∃F,d.toList.filter (fun x:mG w blk=> !decide (x.1=some sp))=F:=⟨_,rfl⟩;rw [hF] at hcon;have hF1:F.map (fun x=>x.1)=(S.filter fun s=>decide (s≠sp)).map some:=by
  rw [←hF];have h1:(d.toList.filter fun x:mG w blk=> !decide (x.1=some sp)).map (fun x=>x.1)=(d.toList.map fun x=>x.1).filter fun y=> !decide (y=some sp):=by rw [List.filter_map];rfl
  rw [h1,hd1,List.filter_map]
  congr 1
  apply List.filter_congr;intro s _;by_cases e:s=sp<;>simp [e]
 have hF2:F.length=(S.filter fun s=>decide (s≠sp)).length:=by
  have h:=congrArg List.length hF1;rw [List.length_map,List.length_map] at h;exact h
 have hF3:F.length≤S.length:=by rw [hF2];exact List.length_filter_le _ _
 refine hcon.mono fun e w' ⟨e1,q,e2⟩=>⟨F.length,e1,hF3, ?_,by rw [e2];exact Ga⟩;obtain ⟨D,hD⟩: ∃D:Array (mG w blk),(F++List.replicate (S.length-F.length) (⟨none,fun s h=>by cases h⟩:mG w blk)).toArray=D:=⟨_,rfl⟩;rw [hD] at e2;have hDs:D.size=d.size:=by rw [←hD,hd2];simp;omega
 have hcell: ∀j,j<D.size→w'.cell? ⟨blk,off+j,none⟩=some (zW D[j]!):=fun j hj=>by
  rw [e2];exact Sort.cell?_putRow zW (Sort.ahead w q) blk off d D hH hDs j hj
 refine .inr ⟨blk,off,cap,by rw [List.length_map,hF2],by rw [e2,Sort.size_putRow];exact k1,by rw [List.length_map,←hF2];omega,k3,fun j u hu=> ?_,fun j hj=> ?_⟩
 · rw [hall,List.getElem?_map] at hu
   have hj:j<F.length:=by
    cases hl:(S.filter fun s=>decide (s≠sp))[j]? with
    |none=>rw [hl] at hu;cases hu
    |some s=>rw [hF2];exact (List.getElem?_eq_some_iff.1 hl).1
   have Zu:j<D.size:=by omega
   rw [hcell j Zu];have h2:F[j]? =some D[j]! :=by
    rw [getElem!_pos D j Zu];have:D.toList[j]? =some D[j]:=by rw [Array.getElem?_toList,Array.getElem?_eq_getElem Zu]
    rw [←this,←hD,List.toList_toArray,List.getElem?_append_left hj]
   obtain ⟨s,hs,e⟩:=VO F _ hF1 j _ h2;rw [hs] at hu;rw [e];exact hu
 · have hj':j<cap:=by simpa [Elem.ptrs] using hj
   refine ⟨?_, ?_⟩
   · by_cases Zu:j<D.size
     · rw [hcell j Zu];rfl
     · rw [e2,Sort.cell?_putRow_other zW _ blk off D _ (.inr (.inr (by show off+D.size≤off+j;omega)))]
       exact (k5 j hj').1
   · rw [e2,Sort.frozen?_putRow]
     exact (k5 j hj').2
section
variable {w w1:World} {h id p q:Nat} {f:Nat→Option Addr} {OQ:Nat→Nat→Prop} {v v':Value} {S S':List Nat} {Q:Nat→QR} {O:Nat→Prop}
theorem Hc.uZ (z:Hc w h id p q f OQ v S Q) (u:aH (In v) w w1) (hv:Vec Elem.ptrs w1 v' (S'.map fun s=>some ⟨s,0,none⟩)) (hin: ∀k,In v' k→In v k∨w.heap.size≤k):Hc (w1.setCell ⟨h,16,none⟩ v') h id p q f OQ v' S' Q:=by
 have hne: ¬In v h:=fun x=>(z.sg h x).1 rfl;have hb:=(z.blk.upd u hne).put 16 v';have hnew: ∀k,In v' k→k≠h∧ ∀i,i<13→ ¬OQ i k:=fun k hk=>by
  rcases hin k hk with x|x
  · exact z.sg k x
  · refine ⟨fun e=> ?_,fun i hi ho=> ?_⟩
    · have:=z.blk.lt;omega
    · have:=z.lt i hi k ho;omega
 have us:=(aH.refl (fun k=>k=h) w1).setCell (p:=⟨h,16,none⟩) (.inl rfl) v';refine ⟨hb,fun i hi=>((z.qs i hi).upd u fun k hk x=>(z.sg k hk).2 i hi x).upd us fun k hk x=>z.nb i hi (hk▸x),z.nb,fun i hi k hk=> ?_,z.i64,z.ap,hv.upd us fun k hk x=>(hnew k hk).1 x,hnew,z.num⟩;rw [World.size_setCell];exact Nat.lt_of_lt_of_le (z.lt i hi k hk) u.size
theorem gI.uZ {id:Nat} {S:List (Nat×SG)} (z:gI w h O id p q S Q): ∃v,w.cell? ⟨h,16,none⟩=some v∧w.frozen? ⟨h,16,none⟩=false∧Vec Elem.ptrs w v ((S.map fun s=>s.1).map fun s=>some ⟨s,0,none⟩)∧(∀k,In v k→O k∧k≠h)∧
 ∀w1 v' (S':List (Nat×SG)),aH (In v) w w1→Vec Elem.ptrs w1 v' ((S'.map fun s=>s.1).map fun s=>some ⟨s,0,none⟩)→(∀k,In v' k→In v k∨w.heap.size≤k)→
  ∃O',gI (w1.setCell ⟨h,16,none⟩ v') h O' id p q S' Q∧(∀k,O' k→O k∨w.heap.size≤k)∧aH O w (w1.setCell ⟨h,16,none⟩ v'):=by
 obtain ⟨f,OQ,v,hc,hO⟩:=z;refine ⟨v,hc.blk.cell 16,hc.blk.frozen 16,hc.vT,fun k hk=>⟨(hO k).2 (.inr (.inr hk)),(hc.sg k hk).1⟩,fun w1 v' S' u hv hin=>⟨Vm h OQ v',⟨f,OQ,v',hc.uZ u hv hin,fun k=>Iff.rfl⟩,fun k hk=> ?_, ?_⟩⟩
 · rcases hk with hk|hk|hk
   · exact .inl ((hO k).2 (.inl hk))
   · exact .inl ((hO k).2 (.inr (.inl hk)))
   · exact (hin k hk).imp (fun x=>(hO k).2 (.inr (.inr x))) fun x=>x
 · exact (u.mono fun k hk=>(hO k).2 (.inr (.inr hk))).setCell (.inl ((hO h).2 (.inl rfl))) v'
end
section
variable {w0 ws w w1:World} {C:fH w0} {h id p g q:Nat} {O O' own T:Nat→Prop} {L:List Nat} {A:St} {B B' R R':List SB} {Q:Nat→QR}
theorem Hn.uZ (n:Hn C ws T w h O id p g q own L A B R Q) (hp:gI w1 h O' id p q (gM B') Q) (hO: ∀k,O' k→O k∨w.heap.size≤k) (u:aH O w w1) (e:(B++R).Perm (B'++R')):Hn C ws T w1 h O' id p g q own L A B' R' Q:=by
 have hE: ∀k,EO p g own (B'++R') k→EO p g own (B++R) k:=fun k hk=>by
  rcases hk with x|x|x|⟨b,hb,x⟩
  · exact .inl x
  · exact .inr (.inl x)
  · exact .inr (.inr (.inl x))
  · exact .inr (.inr (.inr ⟨b,e.mem_iff.2 hb,x⟩))
 have hws:=n.u.size;refine ⟨⟨hp,(n.z.env.upd u fun k hk=>n.z.ap k hk).perm e,fun k hk he=> ?_,fun k hk=> ?_⟩,fun k hk=> ?_,n.u.step u n.t,n.b.trans (u.below (fun k hk=>n.z.lo k (.inl hk)) n.b.size)⟩
 · rcases hO k hk with x|x
   · exact n.z.ap k x (hE k he)
   · have:=n.z.env.lt (hE k he);omega
 · rcases hk with hk|hk
   · rcases hO k hk with x|x
     · exact n.z.lo k (.inl x)
     · have:=n.b.size;omega
   · exact n.z.lo k (.inr (hE k hk))
 · rcases hO k hk with x|x
   · exact n.t k x
   · exact .inr (by omega)
end
theorem xD (B:List SB):(gM B).map (fun s=>s.1)=B.map fun b=>b.sp:=by unfold gM;rw [List.map_map];rfl
section
variable {w0 ws w w1:World} {C:fH w0} {h id p g q:Nat} {O O' own T:Nat→Prop} {L:List Nat} {A:St} {B B' l r R R':List SB} {b:SB} {Q:Nat→QR}
theorem Hr.sps (z:Hr C w h O id p g q own L A B R Q):(B.map fun b=>b.sp).Nodup:=by
 have hp:=z.env.dJ.ap;rw [List.pairwise_append] at hp;have hs: ∀b∈B,BP b b.sp:=fun b hb=> .inl (C.num (z.sg hb).int).1;refine List.pairwise_map.2 (hp.1.imp_of_mem fun {a c} ha hc hac e=> ?_);exact hac a.sp (hs a ha) (by rw [e];exact hs c hc)
theorem ME (hn:((l++b::r).map fun b=>b.sp).Nodup):((l++b::r).map fun b=>b.sp).filter (fun s=>decide (s≠b.sp))=(l++r).map fun b=>b.sp:=by
 rw [List.map_append,List.map_cons] at hn⊢;rw [List.nodup_append,List.nodup_cons] at hn;rw [List.filter_append,List.filter_cons_of_neg (by simp),List.map_append]
 congr 1
 · exact List.filter_eq_self.2 fun x hx=>by simpa using hn.2.2 x hx b.sp (List.mem_cons_self ..)
 · exact List.filter_eq_self.2 fun x hx=>by
    have:x≠b.sp:=fun e=>hn.2.1.1 (by rw [←e];exact hx)
    simpa using this
theorem En (LY:Lay w0) (n:Hn C ws T w h O id p g q own L A (l++b::r) R Q) (hK: ∀i,i<13→ ∀k∈(Q i).all,0≤k∧k≤1023) (hlen: ∀i,i<13→(Q i).all.length≤1024):
 Calls Tryz.prog 136 #[.pointer (some ⟨h,0,none⟩), .pointer (some ⟨b.sp,0,none⟩)] w fun e w'=>e= .returned (.tuple #[])∧ ∃O',Hn C ws T w' h O' id p g q own L A (l++r) (b::R) (fun i=>less (Q i) (oz b.X.pl (Q i).all)):=by
 have jL:b∈l++b::r:=List.mem_append_right _ (List.mem_cons_self ..);have hs:=n.z.sg jL;obtain ⟨sp,hsp⟩: ∃sp,b.sp=sp:=⟨_,rfl⟩;obtain ⟨pl,hpl⟩: ∃pl,b.X.pl=pl:=⟨_,rfl⟩;have Zk:pl≤63:=by rw [←hpl];exact hs.pl
 obtain ⟨bx,hbx⟩: ∃bx,w.heap.size=bx:=⟨_,rfl⟩;obtain ⟨W1,hW1⟩: ∃W1,w.alloc (.cells #[.pointer (some ⟨sp,0,none⟩)] 65)=W1:=⟨_,rfl⟩;have hg1:Below w.heap.size w W1:=by rw [←hW1];exact (Below.refl _ _).alloc (Nat.le_refl _) _
 have bb:aV W1 bx 65 #[.pointer (some ⟨sp,0,none⟩)]:=by rw [←hW1,←hbx];exact aV.new w _ _
 have n1:=n.grew hg1;obtain ⟨v,c16,Wi,hv,hin,hre⟩:=n1.z.hp.uZ;rw [xD] at hv;have hlt: ∀k,O k→k<bx:=fun k hk=>by rw [←hbx];exact n.z.WQ (.inl hk)
 have hnn:0<(l++b::r).length:=by rw [List.length_append,List.length_cons];omega
 obtain ⟨blk,off,cap,rfl⟩: ∃blk off cap,v= .slice (some ⟨blk,off,none⟩) (l++b::r).length cap:=by
  rcases hv with ⟨_,e⟩|⟨g,o,c,e,_⟩
  · have:=congrArg List.length e
    simp at this
  · rw [List.length_map,List.length_map] at e
    exact ⟨g,o,c,e⟩
 obtain ⟨m,hm⟩: ∃m,(l++b::r).length=m:=⟨_,rfl⟩;rw [hm] at c16 hv hin hre;have hOb:O blk:=(hin blk rfl).1;have hbb:bx≠blk:=fun e=>by have:=hlt blk hOb;omega
 have hSB: ∀s∈(l++b::r).map (fun b=>b.sp),s≠blk∧ ∃t cs,aV W1 s t cs:=fun s hs2=>by
  obtain ⟨a,ha,rfl⟩:=List.mem_map.1 hs2;have hsa:=n1.z.sg ha;refine ⟨fun e=>n.z.ap blk hOb (.inr (.inr (.inr ⟨a,List.mem_append_left _ ha, .inl ?_⟩))),C.spB hsa.int⟩;rw [←e];exact (C.num hsa.int).1
 have Xc:=hSB b.sp (List.mem_map.2 ⟨b,jL,rfl⟩);have DEL:=IE (S:=(l++b::r).map fun b=>b.sp) (by rw [List.length_map];exact hm.symm) hv hSB Xc.2 Xc.1 ⟨_,by rw [hsp];exact bb⟩ hbb;rw [ME n.z.sps] at DEL;have FIN:Hid (∀w2 m2,m2≤m→Vec Elem.ptrs w2 (.slice (some ⟨blk,off,none⟩) m2 cap) (((l++r).map fun b=>b.sp).map fun s=>some ⟨s,0,none⟩)→aH (fun k=>k=blk) W1 w2→
  (∃O',Hn C ws T (w2.setCell ⟨h,16,none⟩ (.slice (some ⟨blk,off,none⟩) m2 cap)) h O' id p g q own L A (l++r) (b::R) Q∧ ¬O' bx)∧(w2.setCell ⟨h,16,none⟩ (.slice (some ⟨blk,off,none⟩) m2 cap)).cell? ⟨bx,0,none⟩=some (.pointer (some ⟨sp,0,none⟩))):=Lib.hid fun w2 m2 hm2 hv2 u2=>by
  obtain ⟨O',k1,k2,k3⟩:=hre w2 (.slice (some ⟨blk,off,none⟩) m2 cap) (gM (l++r)) (u2.mono fun k hk=>by rw [hk];rfl) (by rw [xD];exact hv2) fun k hk=> .inl hk;refine ⟨⟨O',n1.uZ k1 k2 k3 ?_,fun x=> ?_⟩,(bb.upd k3 fun x=>by have:=hlt bx x;omega).cell 0⟩
  · rw [List.append_assoc,List.append_assoc]
    exact List.Perm.append_left l (List.perm_middle.symm)
  · rcases k2 bx x with x|x
    · have:=hlt bx x;omega
    · have:=bb.lt;omega
 have PL:Hid (∀O' w2 w3,Hn C ws T w2 h O' id p g q own L A (l++r) (b::R) Q→Below w2.heap.size w2 w3→Calls Tryz.prog 96 #[.pointer (some ⟨sp,0,none⟩)] w3 fun e w'=>e= .returned (.int .i64 (pl:Int))∧Below w2.heap.size w2 w'):=Lib.hid fun O' w2 w3 n2 hb=>by
  have n3:=n2.grew hb;have:=C.place w3 n3.b (n3.z.env.dJ.sg b (List.mem_append_right _ (List.mem_cons_self ..)));rw [hsp,hpl] at this;exact this.mono fun e w' k=>⟨k.1,ah hb hb.size k.2⟩
 have CL:Hid (∀O' w2 w3,Hn C ws T w2 h O' id p g q own L A (l++r) (b::R) Q→ ¬O' bx→w2.cell? ⟨bx,0,none⟩=some (.pointer (some ⟨sp,0,none⟩))→Below w2.heap.size w2 w3→Calls Tryz.prog 165 #[.pointer (some ⟨h,0,none⟩), .int .i64 (pl:Int)] w3 fun e w'=>e= .returned (.tuple #[])∧(∃O',Hn C ws T w' h O' id p g q own L A (l++r) (b::R) (fun i=>less (Q i) (oz pl (Q i).all)))∧w'.cell? ⟨bx,0,none⟩=some (.pointer (some ⟨sp,0,none⟩))):=Lib.hid fun O' w2 w3 n2 hO hc hb=>by
  have n3:=n2.grew hb;refine (M8 LY (Hn.start (T:=O') n3.b n3.z fun k hk=>hk) Zk hK hlen).mono fun e w' ⟨e1,O9,n9⟩=>⟨e1,⟨O9,n3.then n9⟩, ?_⟩;have hc3:=iM hc hb;rw [World.cell?_of_block (w:=w3) (a:=⟨bx,0,none⟩) (n9.u.block bx (World.block_lt_of_cell? w3 _ hc3) hO)];exact hc3
 have aao:=Lib.hid DEL;rw [hsp,hpl];have nh:bx≠h:=fun e=>by have:=hlt h n.z.hp.num.1;omega
 have Yx: ∀w2,aH (fun k=>k=blk) W1 w2→w2.frozen? ⟨h,16,none⟩=false:=fun w2 u2=>by
  obtain ⟨f,OQ,v,hc,hO⟩:=n1.z.hp;have hb:=hc.blk.upd u2 fun e=>(hin blk rfl).2 e.symm;exact hb.frozen 16
 have ZO: ∀w2,aH (fun k=>k=blk) W1 w2→ ∃y,w2.cell? ⟨h,16,none⟩=some y:=fun w2 u2=>by
  obtain ⟨f,OQ,v,hc,hO⟩:=n1.z.hp;have hb:=hc.blk.upd u2 fun e=>(hin blk rfl).2 e.symm;exact ⟨_,hb.cell 16⟩
 have Z16:=Lib.hid Yx;have X7:=Lib.hid ZO;clear jL hs hsp hpl n n1 hv hin hre hlt hnn hm hOb hbb hSB Xc DEL hK hlen LY hg1 bb Zk Wi Yx ZO;go_enter Tryz.func136,Tryz.ntmps136
 go_wp2_with fail
 refine aao.out.mono ?_;rintro e w2 ⟨m2,rfl,hm2,hv2,u2⟩;obtain ⟨y16,Yo⟩:=X7.out w2 u2;have Wi:=Z16.out w2 u2;obtain ⟨⟨O2,hn2,hO2⟩,Xm⟩:=FIN.out w2 m2 hm2 hv2 u2;have HO2:=Lib.hid hO2;have N2:=Lib.hid hn2;obtain ⟨W2,hW2⟩: ∃W2,w2.setCell ⟨h,16,none⟩ (.slice (some ⟨blk,off,none⟩) m2 cap)=W2:=⟨_,rfl⟩;rw [hW2] at N2 Xm;have BB:=Lib.hid (Below.refl W2.heap.size W2);have D1:=Lib.hid (fun w9 (hb:Below W2.heap.size W2 w9)=>iM Xm hb);have HBX:=Lib.hid Xm;clear hv2 u2 hn2 hO2 c16 hm2 aao FIN X7 Z16;go_wp2;go_region_held3 (fun w'=>w'.cell? ⟨bx,0,none⟩=some (.pointer (some ⟨sp,0,none⟩))) (first|exact D1.out _ BB.out|exact D1.out _ BB.out.drew|exact C3.out)
  (first
   |(go_at_call 96;(first|(with_reducible refine (PL.out _ _ _ N2.out BB.out.drew).mono ?_)|(with_reducible refine (PL.out _ _ _ N2.out BB.out).mono ?_));rintro e w3 ⟨rfl,hb⟩;have BB:=Lib.hid hb;clear hb)
   |(go_at_call 165;(with_reducible refine (CL.out _ _ _ N2.out HO2.out HBX.out BB.out).mono ?_);rintro e w4 ⟨rfl,hq,hc⟩;have Q4:=Lib.hid hq;have C3:=Lib.hid hc;clear hq hc))
 go_wp2;refine bodyPost_end (results_none rfl _ _ _) rfl ?_;exact ⟨rfl,Q4.out⟩
end
end Go.Proofs.YtpibbcnkgdmcbaaGreatDoor
namespace Go.Proofs.YtpibbcnkgdmcbaaGreatDoor
open Go.RowKit aC aF aG aI au aD aB aA
section
variable {B l r:List SB} {b b':SB} {X X':SG} {o:bY} {Q:Nat→QR}
theorem rU (hn:((l++b::r).map fun b=>b.X.pl).Nodup) (e:X'.pl=b.X.pl):((aN (l++b::r) Q).eu X').B=(l.map fun b=>b.X)++X'::(r.map fun b=>b.X):=by
 show ((l++b::r).map fun b=>b.X).map (fun Y=>if Y.pl=X'.pl then X' else Y)=_;rw [List.map_append,List.map_cons,List.nodup_append,List.nodup_cons] at hn;rw [List.map_append,List.map_cons,List.map_append,List.map_cons,if_pos e.symm];have h1: ∀a:SB,(a∈l∨a∈r)→a.X.pl≠X'.pl:=fun a ha x=>by
  rw [e] at x;rcases ha with ha|ha
  · exact hn.2.2 _ (List.mem_map.2 ⟨a,ha,rfl⟩) _ (List.mem_cons_self ..) x
  · exact hn.2.1.1 (List.mem_map.2 ⟨a,ha,x⟩)
 congr 1
 · rw [List.map_map]
   exact List.map_congr_left fun a ha=>if_neg (h1 a (.inl ha))
 · congr 1
   rw [List.map_map];exact List.map_congr_left fun a ha=>if_neg (h1 a (.inr ha))
theorem Ej (hn:((l++b::r).map fun b=>b.X.pl).Nodup):((aN (l++b::r) Q).IJ b.X.pl).B=(l++r).map fun b=>b.X:=by
 show ((l++b::r).map fun b=>b.X).filter (fun Y=>decide (Y.pl≠b.X.pl))=_;rw [List.map_append,List.map_cons,List.nodup_append,List.nodup_cons] at hn;rw [List.map_append,List.map_cons,List.filter_append,List.filter_cons_of_neg (by simp),List.map_append];have h1: ∀a:SB,(a∈l∨a∈r)→a.X.pl≠b.X.pl:=fun a ha x=>by
  rcases ha with ha|ha
  · exact hn.2.2 _ (List.mem_map.2 ⟨a,ha,rfl⟩) _ (List.mem_cons_self ..) x
  · exact hn.2.1.1 (List.mem_map.2 ⟨a,ha,x⟩)
 congr 1
 · exact List.filter_eq_self.2 fun Y hY=>by
    obtain ⟨a,ha,rfl⟩:=List.mem_map.1 hY
    simpa using h1 a (.inl ha)
 · exact List.filter_eq_self.2 fun Y hY=>by
    obtain ⟨a,ha,rfl⟩:=List.mem_map.1 hY
    simpa using h1 a (.inr ha)
theorem oO {H H':HS} (h1:H.B=H'.B) (h2:H.Q=H'.Q):H=H':=by
 obtain ⟨a,b⟩:=H;obtain ⟨c,d⟩:=H';cases h1;cases h2;rfl
theorem nN {p g:Nat} {own:Nat→Prop} {nb:Nat} (hg: ∀x,BP b' x→BP b x∨nb≤x) {k:Nat} (hk:EO p g own (l++b'::r) k):EO p g own (l++b::r) k∨nb≤k:=by
 rcases hk with x|x|x|⟨a,ha,x⟩
 · exact .inl (.inl x)
 · exact .inl (.inr (.inl x))
 · exact .inl (.inr (.inr (.inl x)))
 · rcases List.mem_append.1 ha with ha|ha
   · exact .inl (.inr (.inr (.inr ⟨a,List.mem_append_left _ ha,x⟩)))
   · rcases List.mem_cons.1 ha with rfl|ha
     · exact (hg k x).imp (fun x=> .inr (.inr (.inr ⟨b,List.mem_append_right _ (List.mem_cons_self ..),x⟩))) fun x=>x
     · exact .inl (.inr (.inr (.inr ⟨a,List.mem_append_right _ (List.mem_cons_of_mem _ ha),x⟩)))
end
theorem kS {H:HS} (g:aO H) (i:Nat):(∀k∈(H.Q i).all,0≤k∧k≤1023)∧(H.Q i).all.length≤1024:=
 ⟨fun k hk=>by
  obtain ⟨X,hX,o,ho,_,e⟩:=(g.mem i k).1 hk;rw [e];exact oK (g.seg X hX) ho,q_len g i⟩
section
variable {w0 ws w w':World} {C:fH w0} {h id p g q:Nat} {O own own' T:Nat→Prop} {L:List Nat} {A A':St} {B B' l r R R':List SB} {b:SB} {o:bY} {Q:Nat→QR}
theorem Hn.release (n:Hn C ws T w h O id p g q own L A B (b::R) Q) (ia:bL w' q own' (aA.release A (b.X.pl:Int)).2) (hown: ∀k,own' k→own k∨w.heap.size≤k) (u:aH own w w') (FX: ∀k,own k→T k∨ws.heap.size≤k):
 Hn C ws T w' h O id p g q own' L (aA.release A (b.X.pl:Int)).2 B R Q:=by
 have hsub:(B++R).Sublist (B++b::R):=List.Sublist.append_left (List.sublist_cons_self ..) _;have uE: ∀k,own k→EO p g own (B++b::R) k:=fun k hk=> .inr (.inr (.inl hk));have hE: ∀k,EO p g own' (B++R) k→EO p g own (B++b::R) k∨w.heap.size≤k:=fun k hk=>by
  rcases hk with x|x|x|⟨a,ha,x⟩
  · exact .inl (.inl x)
  · exact .inl (.inr (.inl x))
  · exact (hown k x).imp (uE k) fun x=>x
  · exact .inl (.inr (.inr (.inr ⟨a,hsub.subset ha,x⟩)))
 have env:=n.z.env;have hnd:=env.dJ.nd;have hhas:has A (b.X.pl:Int):=⟨by omega,(b.X.pl,1),env.jK b (List.mem_append_right _ (List.mem_cons_self ..)),by simp⟩;have abU:(aA.release A (b.X.pl:Int)).2={A with l:=del A.l b.X.pl}:=by
  unfold aA.release;rw [if_pos hhas,Int.toNat_natCast]
 have hoth: ∀a∈B++R,a.X.pl≠b.X.pl:=fun a ha e=>by
  rw [List.map_append,List.map_cons] at hnd;have h2:=List.perm_middle.nodup_iff.1 hnd;rw [List.nodup_cons,←List.map_append] at h2;exact h2.1 (List.mem_map.2 ⟨a,ha,e⟩)
 refine ⟨⟨n.z.hp.upd u fun k hk ho=>n.z.ap k ho (uE k hk),⟨(env.dJ.sub hsub).upd u fun k hk=>⟨(env.ao k hk).1,(env.ao k hk).2.1,fun a ha=>(env.ao k hk).2.2 a (hsub.subset ha)⟩,ia, ?_,fun a ha=> ?_,fun k hk=> ?_⟩,fun k hk he=> ?_,fun k hk=> ?_⟩,n.t,n.u.step u FX,n.b.trans (u.below (fun k hk=>n.z.lo k (.inr (uE k hk))) n.b.size)⟩
 · rw [(rM A _).1];exact env.size
 · rw [abU]
   show (a.X.pl,1)∈del A.l b.X.pl;unfold del;rw [List.mem_filter];exact ⟨env.jK a (hsub.subset ha),by simpa using hoth a ha⟩
 · rcases hown k hk with x|x
   · exact ⟨(env.ao k x).1,(env.ao k x).2.1,fun a ha=>(env.ao k x).2.2 a (hsub.subset ha)⟩
   · refine ⟨fun e=> ?_,fun e=> ?_,fun a ha hp=> ?_⟩
     · have:=env.dJ.mem.head.lt;omega
     · have:=env.dJ.mem.row.lt;omega
     · have:=env.dJ.lt (hsub.subset ha) hp;omega
 · rcases hE k he with x|x
   · exact n.z.ap k hk x
   · have:=n.z.hp.num.2.1 k hk;omega
 · rcases hk with hk|hk
   · exact n.z.lo k (.inl hk)
   · rcases hE k hk with x|x
     · exact n.z.lo k (.inr x)
     · have:=n.b.size;omega
def vR {w0:World} (C:fH w0) (ws:World) (T:Nat→Prop) (w:World) (h id p g q:Nat) (own:Nat→Prop) (L:List Nat) (B R:List SB) (H':HS) (A':St) (w':World):Prop:=
 ∃O' own' B',Hn C ws T w' h O' id p g q own' L A' B' R H'.Q∧(B'.map fun b=>b.X)=H'.B∧ ∀k,EO p g own' B' k→EO p g own B k∨w.heap.size≤k
theorem QL (n:Hn C ws T w h O id p g q own L A (l++b::r) R Q) (ho:o∈b.X.L) (h0: ¬0<o.P.used) (FX: ∀k,BP b k→T k∨ws.heap.size≤k):
 Calls Tryz.prog 159 #[.pointer (some ⟨b.sp,0,none⟩), .int .i64 (o.lo:Int)] w fun e w'=>e= .returned (.int .i64 0)∧ ∃b1:SB,(b1.sp=b.sp∧b1.X=b.X.cut o∧ ∀x,BP b1 x→BP b x∨w.heap.size≤x)∧Hn C ws T w' h O id p g q own L A (l++b1::r) R Q∧w.heap.size≤w'.heap.size:=by
 have jL:b∈l++b::r:=List.mem_append_right _ (List.mem_cons_self ..);have hs:=n.z.sg jL;have hd:iL b.X (o.lo:Int)=(b.X.cut o,0):=by
  unfold iL;rw [hs.good.Rf ho];simp only [];rw [if_neg h0]
 have hlo:=rX hs.good ho;have k:=C.drop w n.b hs (n:=(o.lo:Int)) ⟨by omega,by omega⟩;rw [hd] at k;refine k.mono fun e w' ⟨I',e1,k1,k2,k3⟩=>⟨e1,⟨b.sp,I',b.c,b.X.cut o⟩,⟨rfl,rfl,fun x hx=> ?_⟩,n.seg (Y:= []) k1 rfl rfl k3 (fun x hx=> .inl (.inl hx)) (Agree.refl _ _) (fun y hy=>by cases hy) (fun x hx=> ?_) fun x hx=>FX x (.inl hx),k3.size⟩;all_goals
  rcases hx with hx|⟨u,hu,hx⟩
  · exact (k2 x hx).imp .inl fun x=>x
  · exact .inl (.inr ⟨u,(List.mem_filter.1 hu).1,hx⟩)
theorem P9 {X:SG} (g:bX X):X.L= []↔ ¬aj.left X.K<15:=by
 have hsum:=g.sum;constructor
 · intro e
   rw [e] at hsum;have:jm []=0:=rfl;omega
 · intro hl
   cases hL:X.L with
   |nil=>rfl
   |cons o t=>
    have h1:=Dn (l:=X.L) (o:=o) (by rw [hL];exact List.mem_cons_self ..);have h2:=(g.fit o (by rw [hL];exact List.mem_cons_self ..)).2.1;omega
theorem xu (LY:Lay w0) (n:Hn C ws T w h O id p g q own L A (l++b::r) R Q) (gd:aO (aN (l++b::r) Q)) (ho:o∈b.X.L) (FX: ∀k,BP b k∨own k→T k∨ws.heap.size≤k):
 Calls Tryz.prog 131 #[.pointer (some ⟨h,0,none⟩), .pointer (some ⟨b.sp,0,none⟩), .pointer (some ⟨o.op,0,none⟩)] w fun e w'=>e= .returned (.tuple #[])∧vR C ws T w h id p g q own L (l++b::r) R (gK (aN (l++b::r) Q) A b.X o).1 (gK (aN (l++b::r) Q) A b.X o).2 w':=by
 have jL:b∈l++b::r:=List.mem_append_right _ (List.mem_cons_self ..);have wR:b.X∈(aN (l++b::r) Q).B:=List.mem_map.2 ⟨b,jL,rfl⟩;have hs:=n.z.sg jL;have hk:=oK ⟨hs.good,hs.pl,hs.pps⟩ ho;have hc:=ze hs.good ho;have Md:=Jy hc.1 hc.2;have hlo:=rX hs.good ho;have US:=Lib.hid (BL (hs.pg o ho).1);have d0:w.cell? ⟨o.op,0,none⟩=some (.pointer (some ⟨o.pp,0,none⟩)):=(hs.own o ho).cell 0;obtain ⟨H',pQ⟩: ∃H',(gK (aN (l++b::r) Q) A b.X o).1=H':=⟨_,rfl⟩;obtain ⟨A',hA'⟩: ∃A',(gK (aN (l++b::r) Q) A b.X o).2=A':=⟨_,rfl⟩;obtain ⟨us,wQ⟩: ∃us,o.P.used=us:=⟨_,rfl⟩;rw [wQ] at US;rw [pQ,hA'];by_cases h0:0<us
 · have t1:decide ((us:Int)>0)=true:=decide_eq_true (by omega)
   have t1':decide (0<us)=true:=decide_eq_true h0;have aa4:decide ((0:Int)<(us:Int))=true:=decide_eq_true (by omega);have FIN:Hid (∀w2,Below w.heap.size w w2→vR C ws T w h id p g q own L (l++b::r) R H' A' w2):=Lib.hid fun w2 hb=>by
    unfold gK at pQ hA';rw [if_pos (by rw [wQ];exact h0)] at pQ hA';refine ⟨O,own,l++b::r, ?_,by rw [←pQ];rfl,fun k hk=> .inl hk⟩;rw [←pQ,←hA'];exact n.grew hb
   obtain ⟨op,hop⟩: ∃op,o.op=op:=⟨_,rfl⟩;obtain ⟨pp,hpp⟩: ∃pp,o.pp=pp:=⟨_,rfl⟩;rw [hop,hpp] at d0;rw [hpp] at US;rw [hop];clear n gd ho FX jL wR hs hk hc Md hlo pQ hA' wQ hop hpp;go_enter Tryz.func131,Tryz.ntmps131
   go_wp2_with fail
   refine US.out.mono ?_;rintro e w1 ⟨rfl,hb⟩;have F1:=Lib.hid (FIN.out w1 hb);clear hb d0 US;go_wp2;refine bodyPost_ret (results_none rfl _ _ _) rfl ?_;exact ⟨rfl,F1.out⟩
 · obtain rfl:us=0:=by omega
   obtain ⟨K,hK⟩: ∃K:Int,aD.keyOf b.X o*1024=K:=⟨_,rfl⟩;have Qw:gy K:=by rw [←hK];exact ⟨by omega,by omega⟩
   obtain ⟨Q1,VQ⟩: ∃Q1,iV Q (qi o.cls) (aX (Q (qi o.cls)) [aD.keyOf b.X o]).1=Q1:=⟨_,rfl⟩;have e1:((aN (l++b::r) Q).eu (b.X.cut o)).mQ o.cls (aX ((aN (l++b::r) Q).Q (qi o.cls)) [aD.keyOf b.X o]).1=⟨(l.map fun b=>b.X)++b.X.cut o::(r.map fun b=>b.X),Q1⟩:=oO (rU (X':=b.X.cut o) (Q:=Q) n.z.jK rfl) VQ;have g1:aO ⟨(l.map fun b=>b.X)++b.X.cut o::(r.map fun b=>b.X),Q1⟩:=by
    have:=gd.cut wR ho;rw [e1] at this;exact this
   have VP:gK (aN (l++b::r) Q) A b.X o=if (b.X.cut o).L= [] then (⟨(l++r).map fun b=>b.X,Q1⟩,(aA.release A (b.X.pl:Int)).2) else (⟨(l.map fun b=>b.X)++b.X.cut o::(r.map fun b=>b.X),Q1⟩,A):=by
    unfold gK;rw [if_neg (by rw [wQ];exact h0)];rw [e1];split
    · congr 1
      refine oO ?_ rfl;have:=Ej (l:=l) (r:=r) (b:={b with X:=b.X.cut o}) (Q:=Q1) (by
       have h:=n.z.jK;rw [List.map_append,List.map_cons] at h⊢;exact h)
      unfold aN at this;rw [List.map_append,List.map_cons] at this;exact this
    · rfl
   have OF:=Lib.hid (fun w2 (hb2:Below w.heap.size w w2)=>(uh (LY.below (ah n.b n.b.size hb2)) h hc.1 hc.2).mono fun e w' k=>show e= .returned (.pointer (some ⟨h,qi o.cls,none⟩))∧Below w.heap.size w w'∧Below w2.heap.size w2 w' from ⟨k.1,ah hb2 hb2.size k.2,k.2⟩);have NU:=Lib.hid (fun w2 (hb2:Below w.heap.size w w2)=>(rR (hs.grew hb2) ho).mono fun e w' k=>show e= .returned (.int .i64 K)∧Below w.heap.size w w' from ⟨by rw [←hK];exact k.1,ah hb2 hb2.size k.2⟩);have RM:=Lib.hid (fun w2 v (hb2:Below w.heap.size w w2) (hv:iF w2 v [K]) (hin: ∀k,In v k→w.heap.size≤k)=>by
    obtain ⟨rr,OQ,k1,k2,k3,k4⟩:=(n.grew hb2).queue Md;refine (Ad w2 k1 hv (.inr fun x hx hy=> ?_)).mono fun e w' k=>show (∃x:Int,e= .returned (.int .i64 x))∧(∃O',Hn C ws T w' h O' id p g q own L A (l++b::r) R Q1)∧(w'.cell? ⟨o.op,1,none⟩=some (.int .i64 o.cls)∧w'.cell? ⟨o.op,2,none⟩=some (.int .i64 (o.lo:Int)))∧w.heap.size≤w'.heap.size from ?_
    · have h1:=hin x hx
      rcases hy with hy|hy
      · have:=n.z.WQ (.inl (k2 x hy));omega
      · have:=n.z.WQ (.inl k3);omega
    · obtain ⟨e1,e2⟩:=tH.of (fun k=> .inl) (dA.refl _ _ w2) k
      rw [←hK,tV] at e2;obtain ⟨O',n',-,u'⟩:=k4 w' _ e2;have hO:=(n'.z.sg jL).own o ho;exact ⟨⟨_,e1⟩,⟨O',by rw [←VQ];exact n'⟩,⟨hO.cell 1,hO.cell 2⟩,Nat.le_trans hb2.size u'.size⟩)
   have D1:=Lib.hid (fun w2 (hb2:Below w.heap.size w w2)=>show w2.cell? ⟨o.op,1,none⟩=some (.int .i64 o.cls) from ((hs.grew hb2).own o ho).cell 1);have DR:Hid (∀w3 O3,Hn C ws T w3 h O3 id p g q own L A (l++b::r) R Q1→w.heap.size≤w3.heap.size→Calls Tryz.prog 159 #[.pointer (some ⟨b.sp,0,none⟩), .int .i64 (o.lo:Int)] w3 fun e w'=>e= .returned (.int .i64 0)∧ ∃b1:SB,b1.sp=b.sp∧b1.X=b.X.cut o∧(∀x,BP b1 x→BP b x∨w.heap.size≤x)∧Hn C ws T w' h O3 id p g q own L A (l++b1::r) R Q1∧w.heap.size≤w'.heap.size):=Lib.hid fun w3 O3 n3 h3=>
    (QL n3 ho (by rw [wQ];exact h0) fun k hk=>FX k (.inl hk)).mono fun e w' ⟨e1,b1,⟨k1,k2,k3⟩,k4,k5⟩=>⟨e1,b1,k1,k2,fun x hx=>(k3 x hx).imp (fun x=>x) fun y=>Nat.le_trans h3 y,k4,Nat.le_trans h3 k5⟩
   have hcut:b.X.cut o∈(⟨(l.map fun b=>b.X)++b.X.cut o::(r.map fun b=>b.X),Q1⟩:HS).B:=List.mem_append_right _ (List.mem_cons_self ..);have hlc:=P9 (g1.seg _ hcut).g;obtain ⟨lf,hlf⟩: ∃lf,aj.left (b.X.cut o).K=lf:=⟨_,rfl⟩;rw [hlf] at hlc;have LF:Hid (∀w4 O4 (b1:SB),b1.sp=b.sp→b1.X=b.X.cut o→Hn C ws T w4 h O4 id p g q own L A (l++b1::r) R Q1→Calls Tryz.prog 160 #[.pointer (some ⟨b.sp,0,none⟩)] w4 fun e w'=>e= .returned (.int .i64 (lf:Int))∧Below w4.heap.size w4 w'):=Lib.hid fun w4 O4 b1 h1 h2 n4=>by
    have:=C.left w4 n4.b (n4.z.sg (List.mem_append_right _ (List.mem_cons_self ..)));rw [h1,h2,hlf] at this;exact this
   have hbp: ∀b1:SB,b1.X=b.X.cut o→b1.X.pl=b.X.pl:=fun b1 e=>by rw [e];rfl
   by_cases hE:(b.X.cut o).L= []
   · rw [if_pos hE] at VP
     have eH:H'=⟨(l++r).map fun b=>b.X,Q1⟩:=by rw [←pQ,VP]
     have eA:A'=(aA.release A (b.X.pl:Int)).2:=by rw [←hA',VP]
     have t3:decide ((lf:Int)<15)=false:=decide_eq_false (by have:=hlc.1 hE;omega);have LO:Hid (∀w5 O5 (b1:SB),b1.sp=b.sp→b1.X=b.X.cut o→Hn C ws T w5 h O5 id p g q own L A (l++b1::r) R Q1→Calls Tryz.prog 136 #[.pointer (some ⟨h,0,none⟩), .pointer (some ⟨b.sp,0,none⟩)] w5 fun e w'=>e= .returned (.tuple #[])∧ ∃O',Hn C ws T w' h O' id p g q own L A (l++r) (b1::R) Q1∧w'.cell? ⟨h,14,none⟩=some (.pointer (some ⟨q,0,none⟩))∧w5.heap.size≤w'.heap.size):=Lib.hid fun w5 O5 b1 h1 h2 n5=>by
      have:=En LY (Hn.start (T:=O5) n5.b n5.z fun k hk=>hk) (fun i hi=>(kS g1 i).1) (fun i hi=>(kS g1 i).2);rw [h1] at this;refine this.mono fun e w' ⟨e1,O',n'⟩=>⟨e1,O',(n5.then n').congr fun i hi=> ?_, ?_,n'.u.size⟩
      · rw [hbp b1 h2]
        refine IK g1 (fun Y hY e=> ?_) i;have:=iI g1.jK hY hcut e;rw [this];exact hE
      · obtain ⟨_,_,_,_,_,_,_,c14,_⟩:=n'.z.row
        exact c14
     have PL:Hid (∀w6 w7 O6 (b1:SB),b1.sp=b.sp→b1.X=b.X.cut o→Hn C ws T w6 h O6 id p g q own L A (l++r) (b1::R) Q1→Below w6.heap.size w6 w7→Calls Tryz.prog 96 #[.pointer (some ⟨b.sp,0,none⟩)] w7 fun e w'=>e= .returned (.int .i64 (b.X.pl:Int))∧Below w6.heap.size w6 w'):=Lib.hid fun w6 w7 O6 b1 h1 h2 n6 hb=>by
      have n7:=n6.grew hb;have:=C.place w7 n7.b (n7.z.env.dJ.sg b1 (List.mem_append_right _ (List.mem_cons_self ..)));rw [h1,hbp b1 h2] at this;exact this.mono fun e w' k=>⟨k.1,ah hb hb.size k.2⟩
     have RL:Hid (∀w6 w7 O6 (b1:SB),b1.X=b.X.cut o→Hn C ws T w6 h O6 id p g q own L A (l++r) (b1::R) Q1→Below w6.heap.size w6 w7→w.heap.size≤w6.heap.size→Calls Tryz.prog 127 #[.pointer (some ⟨q,0,none⟩), .int .i64 (b.X.pl:Int)] w7 fun e w'=>(∃x:Int,e= .returned (.int .i64 x))∧vR C ws T w h id p g q own L (l++b::r) R H' A' w'∧w'.cell? ⟨h,14,none⟩=some (.pointer (some ⟨q,0,none⟩))):=Lib.hid fun w6 w7 O6 b1 h2 n6 hb h3=>by
      have n7:=n6.grew hb;refine (om n7.z.env.ar (b.X.pl:Int)).mono fun e w' ⟨e1,⟨own',ia,hown⟩,u⟩=> ?_;have n8:=n7.release (by rw [hbp b1 h2];exact ia) hown u fun k hk=>FX k (.inr hk);rw [hbp b1 h2] at n8;obtain ⟨_,_,_,_,_,_,_,c14,_⟩:=n8.z.row;have h7:=hb.size;refine ⟨⟨_,e1⟩,⟨O6,own',l++r,by rw [eH,eA];exact n8,by rw [eH],fun k hk=> ?_⟩,c14⟩;rcases hk with x|x|x|⟨a,ha,x⟩
      · exact .inl (.inl x)
      · exact .inl (.inr (.inl x))
      · rcases hown k x with x|x
        · exact .inl (.inr (.inr (.inl x)))
        · exact .inr (by omega)
      · refine .inl (.inr (.inr (.inr ⟨a, ?_,x⟩)))
        rcases List.mem_append.1 ha with ha|ha
        · exact List.mem_append_left _ ha
        · exact List.mem_append_right _ (List.mem_cons_of_mem _ ha)
     obtain ⟨sp,hsp⟩: ∃sp,b.sp=sp:=⟨_,rfl⟩;obtain ⟨op,hop⟩: ∃op,o.op=op:=⟨_,rfl⟩;obtain ⟨pp,hpp⟩: ∃pp,o.pp=pp:=⟨_,rfl⟩;obtain ⟨lo,hlo2⟩: ∃lo,o.lo=lo:=⟨_,rfl⟩;obtain ⟨cls,hcls⟩: ∃cls,o.cls=cls:=⟨_,rfl⟩;obtain ⟨qn,Zj⟩: ∃qn,qi cls=qn:=⟨_,rfl⟩;rw [hop,hpp] at d0;rw [hpp] at US;rw [hop] at NU⊢;rw [hop,hcls,hlo2] at RM;rw [hop,hcls] at D1;rw [hcls] at OF;rw [Zj] at OF RM;rw [hlo2] at DR;rw [hsp];have HSP:=Lib.hid hsp;have EX:b.sp=sp:=hsp;rw [EX] at DR LF LO PL;have zY:=Lib.hid Qw;clear n gd ho FX jL wR hs hk hc Md hlo pQ hA' wQ hop hpp hlo2 hcls Zj hK Qw VQ e1 g1 VP hcut hlc hlf hbp hE eH eA EX hsp;go_enter Tryz.func131,Tryz.ntmps131
     go_wp2_with fail
     refine US.out.mono ?_;rintro e w1 ⟨rfl,hb⟩;have BB:=Lib.hid hb;clear hb d0 US;go_wp2;go_region_held3 (fun w'=>w'.cell? ⟨op,1,none⟩=some (.int .i64 cls)) (first|exact D1.out _ BB.out|exact D1.out _ BB.out.drew|exact C2.out.1|exact D1.out _ (ah BB.out BB.out.size (dz zY.out (.inl rfl)).2)|exact D1.out _ (ah BB.out BB.out.size (dz zY.out (.inr rfl)).2)|go_keep)
      (first
       |(go_at_call 100;(first|(with_reducible refine (OF.out _ BB.out.drew).mono ?_)|(with_reducible refine (OF.out _ BB.out).mono ?_)|(refine (OF.out _ (ah BB.out BB.out.size (dz zY.out (.inl rfl)).2)).mono ?_)|(refine (OF.out _ (ah BB.out BB.out.size (dz zY.out (.inr rfl)).2)).mono ?_));rintro e wo ⟨rfl,hb,hb2⟩;have BB:=Lib.hid hb;have OO:=Lib.hid hb2;clear hb hb2)
       |(go_at_call 145;(first|(with_reducible refine (NU.out _ BB.out.drew).mono ?_)|(with_reducible refine (NU.out _ BB.out).mono ?_));rintro e wn ⟨rfl,hb⟩;have BB:=Lib.hid hb;have NB:=Lib.hid hb;clear hb)
       |(go_at_call 113
         refine (RM.out _ _ ?_ ?_ ?_).mono ?_
         · first|exact ah BB.out BB.out.size (dz zY.out (.inl rfl)).2|exact ah BB.out BB.out.size (dz zY.out (.inr rfl)).2|exact BB.out
         · first|exact (dz zY.out (.inl rfl)).1|exact (dz zY.out (.inr rfl)).1|exact ((dz zY.out (.inl rfl)).1.grew OO.out)|exact ((dz zY.out (.inr rfl)).1.grew OO.out)
         · intro k hk
           have e:=nu hk;first|(have:=BB.out.size;omega)|(have:=NB.out.size;omega)
         rintro e w3 ⟨⟨x3,rfl⟩,hq,hc,hz⟩;have Q3:=Lib.hid hq;have C2:=Lib.hid hc;have Z3:=Lib.hid hz;clear hq hc hz))
     obtain ⟨O3,Qo⟩:=Q3.out;have N3:=Lib.hid Qo;have d2:=C2.out.2;clear Qo;go_wp2_with fail
     refine (DR.out _ _ N3.out Z3.out).mono ?_;rintro e w4 ⟨rfl,b1,h1,h2,h3,Zo,h4⟩;have N4:=Lib.hid Zo;have H1:=Lib.hid h1;have H2:=Lib.hid h2;have H3:=Lib.hid h3;have H4:=Lib.hid h4;clear h1 h2 h3 Zo h4 d2;go_wp2_with fail
     refine (LF.out _ _ _ H1.out H2.out N4.out).mono ?_;rintro e w5 ⟨rfl,hb⟩;have N5:=Lib.hid (N4.out.grew hb);have Z5:=Lib.hid (Nat.le_trans H4.out hb.size);clear hb;go_wp2_with fail
     refine (LO.out _ _ _ H1.out H2.out N5.out).mono ?_;rintro e w6 ⟨rfl,O6,hn6,hc6,hz6⟩;have N6:=Lib.hid hn6;have W6:=Lib.hid (Nat.le_trans Z5.out hz6);have B6:=Lib.hid (Below.refl w6.heap.size w6);have D6:=Lib.hid (fun w9 (hb:Below w6.heap.size w6 w9)=>iM hc6 hb);clear hn6 hc6 hz6;go_wp2;go_region_held3 (fun w'=>w'.cell? ⟨h,14,none⟩=some (.pointer (some ⟨q,0,none⟩))) (first|exact D6.out _ B6.out|exact D6.out _ B6.out.drew|exact C7.out)
      (first
       |(go_at_call 96;(first|(with_reducible refine (PL.out _ _ _ _ H1.out H2.out N6.out B6.out.drew).mono ?_)|(with_reducible refine (PL.out _ _ _ _ H1.out H2.out N6.out B6.out).mono ?_));rintro e w7 ⟨rfl,hb⟩;have B6:=Lib.hid hb;clear hb)
       |(go_at_call 127;refine (RL.out _ _ _ _ H2.out N6.out B6.out W6.out).mono ?_;rintro e w8 ⟨⟨x8,rfl⟩,hq,hc⟩;have Q8:=Lib.hid hq;have C7:=Lib.hid hc;clear hq hc))
     go_wp2;refine bodyPost_end (results_none rfl _ _ _) rfl ?_;exact ⟨rfl,Q8.out⟩
   · rw [if_neg hE] at VP
     have eH:H'=⟨(l.map fun b=>b.X)++b.X.cut o::(r.map fun b=>b.X),Q1⟩:=by rw [←pQ,VP]
     have eA:A'=A:=by rw [←hA',VP]
     have t3:decide ((lf:Int)<15)=true:=decide_eq_true (by
      by_cases Xq:lf<15
      · omega
      · exact absurd (hlc.2 Xq) hE)
     have FIN:Hid (∀w5 O5 (b1:SB),b1.X=b.X.cut o→(∀x,BP b1 x→BP b x∨w.heap.size≤x)→Hn C ws T w5 h O5 id p g q own L A (l++b1::r) R Q1→vR C ws T w h id p g q own L (l++b::r) R H' A' w5):=Lib.hid fun w5 O5 b1 h2 h3 n5=>
      ⟨O5,own,l++b1::r,by rw [eH,eA];exact n5,by rw [eH,List.map_append,List.map_cons,h2],fun k hk=>nN h3 hk⟩
     obtain ⟨sp,hsp⟩: ∃sp,b.sp=sp:=⟨_,rfl⟩;obtain ⟨op,hop⟩: ∃op,o.op=op:=⟨_,rfl⟩;obtain ⟨pp,hpp⟩: ∃pp,o.pp=pp:=⟨_,rfl⟩;obtain ⟨lo,hlo2⟩: ∃lo,o.lo=lo:=⟨_,rfl⟩;obtain ⟨cls,hcls⟩: ∃cls,o.cls=cls:=⟨_,rfl⟩;obtain ⟨qn,Zj⟩: ∃qn,qi cls=qn:=⟨_,rfl⟩;rw [hop,hpp] at d0;rw [hpp] at US;rw [hop] at NU⊢;rw [hop,hcls,hlo2] at RM;rw [hop,hcls] at D1;rw [hcls] at OF;rw [Zj] at OF RM;rw [hlo2] at DR;rw [hsp];have HSP:=Lib.hid hsp;have EX:b.sp=sp:=hsp;rw [EX] at DR LF;have zY:=Lib.hid Qw;clear n gd ho FX jL wR hs hk hc Md hlo pQ hA' wQ hop hpp hlo2 hcls Zj hK Qw VQ e1 g1 VP hcut hlc hlf hbp hE eH eA EX hsp;go_enter Tryz.func131,Tryz.ntmps131
     go_wp2_with fail
     refine US.out.mono ?_;rintro e w1 ⟨rfl,hb⟩;have BB:=Lib.hid hb;clear hb d0 US;go_wp2;go_region_held3 (fun w'=>w'.cell? ⟨op,1,none⟩=some (.int .i64 cls)) (first|exact D1.out _ BB.out|exact D1.out _ BB.out.drew|exact C2.out.1|exact D1.out _ (ah BB.out BB.out.size (dz zY.out (.inl rfl)).2)|exact D1.out _ (ah BB.out BB.out.size (dz zY.out (.inr rfl)).2)|go_keep)
      (first
       |(go_at_call 100;(first|(with_reducible refine (OF.out _ BB.out.drew).mono ?_)|(with_reducible refine (OF.out _ BB.out).mono ?_)|(refine (OF.out _ (ah BB.out BB.out.size (dz zY.out (.inl rfl)).2)).mono ?_)|(refine (OF.out _ (ah BB.out BB.out.size (dz zY.out (.inr rfl)).2)).mono ?_));rintro e wo ⟨rfl,hb,hb2⟩;have BB:=Lib.hid hb;have OO:=Lib.hid hb2;clear hb hb2)
       |(go_at_call 145;(first|(with_reducible refine (NU.out _ BB.out.drew).mono ?_)|(with_reducible refine (NU.out _ BB.out).mono ?_));rintro e wn ⟨rfl,hb⟩;have BB:=Lib.hid hb;have NB:=Lib.hid hb;clear hb)
       |(go_at_call 113
         refine (RM.out _ _ ?_ ?_ ?_).mono ?_
         · first|exact ah BB.out BB.out.size (dz zY.out (.inl rfl)).2|exact ah BB.out BB.out.size (dz zY.out (.inr rfl)).2|exact BB.out
         · first|exact (dz zY.out (.inl rfl)).1|exact (dz zY.out (.inr rfl)).1|exact ((dz zY.out (.inl rfl)).1.grew OO.out)|exact ((dz zY.out (.inr rfl)).1.grew OO.out)
         · intro k hk
           have e:=nu hk;first|(have:=BB.out.size;omega)|(have:=NB.out.size;omega)
         rintro e w3 ⟨⟨x3,rfl⟩,hq,hc,hz⟩;have Q3:=Lib.hid hq;have C2:=Lib.hid hc;have Z3:=Lib.hid hz;clear hq hc hz))
     obtain ⟨O3,Qo⟩:=Q3.out;have N3:=Lib.hid Qo;have d2:=C2.out.2;clear Qo;go_wp2_with fail
     refine (DR.out _ _ N3.out Z3.out).mono ?_;rintro e w4 ⟨rfl,b1,h1,h2,h3,Zo,h4⟩;have N4:=Lib.hid Zo;have H1:=Lib.hid h1;have H2:=Lib.hid h2;have H3:=Lib.hid h3;have H4:=Lib.hid h4;clear h1 h2 h3 Zo h4 d2;go_wp2_with fail
     refine (LF.out _ _ _ H1.out H2.out N4.out).mono ?_;rintro e w5 ⟨rfl,hb⟩;have N5:=Lib.hid (N4.out.grew hb);have Z5:=Lib.hid (Nat.le_trans H4.out hb.size);clear hb;go_wp2;refine bodyPost_ret (results_none rfl _ _ _) rfl ?_;exact ⟨rfl,FIN.out _ _ _ H2.out H3.out N5.out⟩
end
end Go.Proofs.YtpibbcnkgdmcbaaGreatDoor
