/- Stks14: texts of layers below, joined (StackA StackB StackC). -/
import Derived.Test.YtippfeplogkaiaaGreatDoorCells12
import Derived.Test.YtippfeplogkaiaaGreatDoorStackMath
import Derived.Deep.RegionHeld3
import Derived.Deep.RegionLaw
import Derived.IntWalk
namespace Go.Proofs.YtippfeplogkaiaaGreatDoor
open Go.RowKit StackMath
set_option linter.unusedVariables false
set_option maxRecDepth 100000
def SK (w:World) (s o:Nat) (S:SS):Prop:= ∃ty cs,Blk w s ty cs∧cs[o]? =some (.int .u64 (topW S.L:Nat))∧cs[o+1]? =some (.int .u64 (S.t:Nat))∧cs[o+2]? =some (.int .i64 (S.n:Nat))∧ ∀x,x<64→cs[o+3+x]? =some (.int .u64 (S.B x:Nat))
def SPl (s o:Nat) (c i:Nat):Prop:=c=s∧o≤i∧i<o+67
theorem CPl.spl {s o c i:Nat} (h:CPl s o c i):SPl s o c i:=⟨h.1,by rcases h.2 with e|e|e<;>omega,by rcases h.2 with e|e|e<;>omega⟩
section
variable {w w':World} {s o:Nat} {S S':SS}
theorem SK.lt (h:SK w s o S):s<w.heap.size:=by obtain ⟨ty,cs,k,_⟩:=h;exact k.lt
theorem SK.cc (h:SK w s o S):CC w s o (topW S.L) S.t (S.n:Int):=by obtain ⟨ty,cs,k,e0,e1,e2,_⟩:=h;exact ⟨ty,cs,k,e0,e1,e2⟩
theorem SK.cell (h:SK w s o S) {x:Nat} (hx:x<64):w.cell? ⟨s,o+3+x,none⟩=some (.int .u64 (S.B x:Nat)):=by obtain ⟨ty,cs,k,_,_,_,e⟩:=h;rw [k.cell];exact e x hx
theorem SK.frozen (h:SK w s o S) (i:Nat):w.frozen? ⟨s,i,none⟩=false:=by obtain ⟨ty,cs,k,_⟩:=h;exact k.frozen i
theorem SK.upd {T:Nat→Prop} (h:SK w s o S) (u:Upd T w w') (ht: ¬T s):SK w' s o S:=by obtain ⟨ty,cs,k,e⟩:=h;exact ⟨ty,cs,k.upd u ht,e⟩
theorem SK.grew (h:SK w s o S) (hb:Below w.heap.size w w'):SK w' s o S:=h.upd (updFalse_of hb) id
theorem SK.turn (h:SK w s o S) (c:CC w' s o (topW S'.L) S'.t (S'.n:Int)) (W:Wrt (fun _=>False) (CPl s o) w w') (hB:S'.B=S.B):SK w' s o S':=by
  obtain ⟨ty,cs,k,e0,e1,e2,eb⟩:=h
  obtain ⟨cs',k',hz,e'⟩:=W.blk s id ty cs k
  obtain ⟨ty2,cs2,k2,f0,f1,f2⟩:=c
  have:some (Obj.cells cs' ty (0,0))=some (Obj.cells cs2 ty2 (0,0)):=k'.symm.trans k2
  injection this with this
  injection this with g1 g2 g3
  subst g1 g2
  refine ⟨_,_,k',f0,f1,f2,fun x hx=> ?_⟩
  rw [e' _ (fun hc=>by rcases hc.2 with e|e|e<;>omega),hB]
  exact eb x hx
theorem SK.put (h:SK w s o S) {p:Nat} (hp:p<64) (v:Nat) (V:Int) (hV:V=(v:Int)):SK (w.setCell ⟨s,o+3+p,none⟩ (.int .u64 V)) s o ⟨S.L,putB S.B p v,S.t,S.n⟩:=by
  subst hV
  obtain ⟨ty,cs,k,e0,e1,e2,eb⟩:=h
  refine ⟨ty,_,k.put (o+3+p) _, ?_, ?_, ?_,fun x hx=> ?_⟩
  · rw [Array.getElem?_setIfInBounds,if_neg (by omega)];exact e0
  · rw [Array.getElem?_setIfInBounds,if_neg (by omega)];exact e1
  · rw [Array.getElem?_setIfInBounds,if_neg (by omega)];exact e2
  · by_cases hxp:x=p
    · subst hxp
      obtain ⟨l,_⟩:=Array.getElem?_eq_some_iff.1 (eb x hx)
      rw [Array.getElem?_setIfInBounds_self_of_lt l]
      show _=some (Value.int .u64 ((putB S.B x v x:Nat):Int))
      rw [putB_self]
    · rw [Array.getElem?_setIfInBounds,if_neg (by omega)]
      show _=some (Value.int .u64 ((putB S.B p v x:Nat):Int))
      rw [putB_ne hxp];exact eb x hx
end
def zS67:Array Value:= #[.int .u64 0, .int .u64 0, .int .i64 0, .int .u64 0, .int .u64 0, .int .u64 0, .int .u64 0, .int .u64 0, .int .u64 0, .int .u64 0, .int .u64 0, .int .u64 0, .int .u64 0, .int .u64 0, .int .u64 0, .int .u64 0, .int .u64 0, .int .u64 0, .int .u64 0, .int .u64 0, .int .u64 0, .int .u64 0, .int .u64 0, .int .u64 0, .int .u64 0, .int .u64 0, .int .u64 0, .int .u64 0, .int .u64 0, .int .u64 0, .int .u64 0, .int .u64 0, .int .u64 0, .int .u64 0, .int .u64 0, .int .u64 0, .int .u64 0, .int .u64 0, .int .u64 0, .int .u64 0, .int .u64 0, .int .u64 0, .int .u64 0, .int .u64 0, .int .u64 0, .int .u64 0, .int .u64 0, .int .u64 0, .int .u64 0, .int .u64 0, .int .u64 0, .int .u64 0, .int .u64 0, .int .u64 0, .int .u64 0, .int .u64 0, .int .u64 0, .int .u64 0, .int .u64 0, .int .u64 0, .int .u64 0, .int .u64 0, .int .u64 0, .int .u64 0, .int .u64 0, .int .u64 0, .int .u64 0]
theorem sk_new (w:World): ∃W,w.alloc (.cells zS67 111)=W∧SK W w.heap.size 0 s0∧Below w.heap.size w W∧W.heap.size=w.heap.size+1:=by
  refine ⟨_,rfl,⟨111,_,Blk.new w _ _,rfl,rfl,rfl,fun x hx=> ?_⟩,(Below.refl _ w).alloc (Nat.le_refl _) _,World.size_alloc _ _⟩
  have e:zS67=(#[Value.int .u64 0,Value.int .u64 0,Value.int .i64 0]++Array.replicate 64 (Value.int .u64 0)):=rfl
  refine (congrArg (fun a:Array Value=>a[0+3+x]?) e).trans ?_
  show (#[Value.int .u64 0,Value.int .u64 0,Value.int .i64 0]++Array.replicate 64 (Value.int .u64 0))[0+3+x]? =_
  rw [Array.getElem?_append_right (show 3≤0+3+x by omega),Array.getElem?_replicate]
  exact if_pos (show 0+3+x-3<64 by omega)
theorem placeOf_any (w:World) {x:Nat} (hx:x≤64):Calls Tryz.prog 73 #[.int .u64 (x:Int)] w fun e w'=>e= .returned (.int .i64 ((x:Int)-1))∧w'=w:=by
  have h0:(0:Int)≤(x:Int):=by omega
  have h1:(x:Int)≤64:=by omega
  go_enter Tryz.func73,Tryz.ntmps73
  go_wp2
  go_ret
  exact ⟨rfl,rfl⟩
theorem isPlace_yes (w:World) {x:Nat} (hx:x<64):Calls Tryz.prog 74 #[.int .i64 (x:Int)] w fun e w'=>e= .returned (.bool true)∧w'=w:=by
  have t1:decide ((0:Int)≤(x:Int))=true:=decide_eq_true (by omega)
  have t2:decide ((x:Int)<64)=true:=decide_eq_true (by omega)
  go_enter Tryz.func74,Tryz.ntmps74
  go_wp2
  go_ret
  exact ⟨rfl,rfl⟩
theorem isPlace_no (w:World) {i:Int} (hi:i<0∨64≤i):Calls Tryz.prog 74 #[.int .i64 i] w fun e w'=>e= .returned (.bool false)∧w'=w:=by
  by_cases h0:i<0
  · have t1:decide ((0:Int)≤i)=false:=decide_eq_false (by omega)
    clear hi h0
    go_enter Tryz.func74,Tryz.ntmps74
    go_wp2
    go_ret
    exact ⟨rfl,rfl⟩
  · have t1:decide ((0:Int)≤i)=true:=decide_eq_true (by omega)
    have t2:decide (i<64)=false:=decide_eq_false (by omega)
    clear hi h0
    go_enter Tryz.func74,Tryz.ntmps74
    go_wp2
    go_ret
    exact ⟨rfl,rfl⟩
abbrev ManyB (S:SS):Prop:=S.n≤999999999
theorem ManyB.ask {S:SS} (h:ManyB S):AskB (S.n:Int):=⟨by omega,by have:S.n≤999999999:=h;omega⟩
def MetAt (w:World) (b:Nat) (L:List Nat):Prop:= ∃cs,Blk w b 164 cs∧ ∀x,x<64→cs[x]? =some (.bool (decide (x∈L)))
theorem MetAt.lt {w:World} {b:Nat} {L:List Nat} (h:MetAt w b L):b<w.heap.size:=by obtain ⟨cs,k,_⟩:=h;exact k.lt
theorem MetAt.upd {T:Nat→Prop} {w w':World} {b:Nat} {L:List Nat} (h:MetAt w b L) (u:Upd T w w') (ht: ¬T b):MetAt w' b L:=by obtain ⟨cs,k,e⟩:=h;exact ⟨cs,k.upd u ht,e⟩
theorem MetAt.cell {w:World} {b:Nat} {L:List Nat} (h:MetAt w b L) {x:Nat} (hx:x<64) {v:Bool} (hv:decide (x∈L)=v):w.cell? ⟨b,x,none⟩=some (.bool v):=by obtain ⟨cs,k,e⟩:=h;rw [k.cell,e x hx,hv]
theorem MetAt.frozen {w:World} {b:Nat} {L:List Nat} (h:MetAt w b L) (i:Nat):w.frozen? ⟨b,i,none⟩=false:=by obtain ⟨cs,k,_⟩:=h;exact k.frozen i
theorem MetAt.put {w:World} {b:Nat} {L:List Nat} (h:MetAt w b L) {p:Nat} (hp:p<64) {L':List Nat} (hL: ∀x,x∈L'↔x=p∨x∈L):MetAt (w.setCell ⟨b,p,none⟩ (.bool true)) b L':=by
  obtain ⟨cs,k,e⟩:=h
  refine ⟨_,k.put p _,fun x hx=> ?_⟩
  by_cases hxp:x=p
  · subst hxp
    obtain ⟨l,_⟩:=Array.getElem?_eq_some_iff.1 (e x hx)
    rw [Array.getElem?_setIfInBounds_self_of_lt l,decide_eq_true ((hL x).2 (.inl rfl))]
  · rw [Array.getElem?_setIfInBounds,if_neg (by omega),e x hx]
    have:decide (x∈L')=decide (x∈L):=decide_eq_decide.2 ⟨fun h=>by rcases (hL x).1 h with e|e;exact absurd e hxp;exact e,fun h=>(hL x).2 (.inr h)⟩
    rw [this]
theorem look_any (w:World) {s o:Nat} {S:SS} (h:SK w s o S) (g:GoodS S) (hm:ManyB S):
    Calls Tryz.prog 179 #[.pointer (some ⟨s,o,none⟩)] w fun e w'=>e= .returned (.tuple #[.int .i64 (topI S.L), .int .u64 (S.t:Int)])∧SK w' s o ⟨S.L,S.B,S.t,S.n+1⟩∧Wrt (fun _=>False) (CPl s o) w w':=by
  have C:=Lib.hid (cell_load w h.cc hm.ask)
  have hp:=fun w'=>placeOf_any w' (topW_le g.lt)
  rw [topI_word]
  obtain ⟨x,hx⟩: ∃x,topW S.L=x:=⟨_,rfl⟩
  rw [hx] at C hp⊢
  have HX:=Lib.hid hx;have H:=Lib.hid h;have HP:=Lib.hid hp
  obtain ⟨t,ht⟩: ∃t,S.t=t:=⟨_,rfl⟩
  rw [ht] at C⊢
  have HT:=Lib.hid ht
  clear h g hm hx ht hp
  go_enter Tryz.func179,Tryz.ntmps179
  go_wp2_with fail
  refine C.out.mono ?_;rintro e w1 ⟨rfl,k1,k2⟩
  have K:=Lib.hid (And.intro k1 k2)
  clear k1 k2
  go_wp2_with fail
  refine (HP.out _).mono ?_;rintro e w2 ⟨rfl,rfl⟩
  go_wp2
  go_ret2
  exact ⟨rfl,H.out.turn (by rw [HX.out];exact HT.out▸K.out.1) K.out.2 rfl,K.out.2⟩
end Go.Proofs.YtippfeplogkaiaaGreatDoor
namespace Go.Proofs.YtippfeplogkaiaaGreatDoor
open Go.RowKit StackMath
set_option linter.unusedVariables false
set_option maxRecDepth 100000
def toI (L:List Nat):List Int:=L.map Int.ofNat
def lenOf:Value→Nat
  | .slice _ n _=>n
  |_=>0
end Go.Proofs.YtippfeplogkaiaaGreatDoor
namespace Go.Proofs.YtippfeplogkaiaaGreatDoor
open Go.RowKit StackMath
set_option linter.unusedVariables false
set_option maxRecDepth 100000
theorem Vec.at13 {w:World} {a:Option Addr} {n c:Nat} {l:List Int} (h:Seq Elem.ints w (.slice a n c) l) {t:Nat} (ht:t<l.length): ∃b off y,a=some ⟨b,off,none⟩∧l[t]? =some y∧y∈l∧w.cell? ⟨b,off+t,none⟩=some (.int .i64 y):=by
  have hy:l[t]? =some l[t]:=List.getElem?_eq_getElem ht
  obtain ⟨b,off,ea,hc⟩:=h.elem hy
  have h0:=hc 0 (.int .i64 l[t]) rfl
  exact ⟨b,off,l[t],ea,hy,List.mem_of_getElem? hy,by simpa [Elem.ints] using h0⟩
def IdxR (l:List Int) (x:Int) (w:World) (i:Value) (wr:World):Prop:= ∃t:Nat,t≤l.length∧i= .int .i64 (t:Int)∧(∀y∈l.take t,x≠y)∧w=wr
theorem take_next13 {l:List Int} {t:Nat} {o:Int} {φ:Int→Prop} (h: ∀x∈l.take t,φ x) (ho:l[t]? =some o) (hφ:φ o): ∀x∈l.take (t+1),φ x:=fun x hx=>by
  rw [List.take_add_one,ho] at hx
  rcases List.mem_append.1 hx with hx|hx
  · exact h x hx
  · rw [List.mem_singleton.1 hx];exact hφ
set_option maxHeartbeats 1000000 in
theorem index_any (w:World) {v:Value} {l:List Int} (h:Vec Elem.ints w v l) {x:Int}:
    Calls Tryz.prog 267 #[v, .int .i64 x] w fun e w'=> ∃k:Int,e= .returned (.int .i64 k)∧decide (0≤k)=decide (x∈l)∧w'=w:=by
  obtain ⟨a,c,rfl,h1,h2⟩:=h.slice'
  obtain ⟨n,hn⟩: ∃n,l.length=n:=⟨_,rfl⟩
  rw [hn] at h h1⊢
  have HN:=Lib.hid hn;have H:=Lib.hid h
  have I0:=Lib.hid (show IdxR l x w (.int .i64 0) w from ⟨0,Nat.zero_le _,rfl,by simp,rfl⟩)
  clear h hn
  go_enter Tryz.func267,Tryz.ntmps267
  go_wp2
  go_loopw [8] (fun i wr=>IdxR l x w i wr) (fun i _=>n-(intOf i).toNat)
  case atStart=>exact I0.out
  case round=>
    clear I0
    obtain ⟨t,ht,rfl,hno,rfl⟩:=hrel
    rw [HN.out] at ht
    have NO:=Lib.hid hno
    by_cases htn:t<n
    · obtain ⟨b3,off3,y,ea,hy,hym,d0⟩:=Vec.at13 H.out.seq (t:=t) (by rw [HN.out];exact htn)
      subst ea
      have HY:=Lib.hid hy;have HM:=Lib.hid hym
      have t2:decide ((t:Int)<(n:Int))=true:=decide_eq_true (by omega)
      have t2':decide (t<n)=true:=decide_eq_true htn
      have q3:(0:Int)≤(t:Int):=by omega
      have q4:(t:Int)<(n:Int):=by omega
      clear hno hy hym
      by_cases hxy:x=y
      · subst hxy
        have t3:((x:Int)==x)=true:=by simp
        go_wp2
        go_ret
        exact ⟨_,rfl,by rw [decide_eq_true HM.out];exact decide_eq_true (by omega),rfl⟩
      · have t3:((x:Int)==y)=false:=by rw [beq_eq_false_iff_ne];exact hxy
        have HXY:=Lib.hid hxy
        clear hxy
        go_wp2
        go_roundw
        case rel=>exact ⟨t+1,by rw [HN.out];omega,by go_num,take_next13 NO.out HY.out HXY.out,rfl⟩
        case measure=>simp [intOf];omega
    · obtain rfl:t=n:=by omega
      have t2:decide ((t:Int)<(t:Int))=false:=decide_eq_false (by omega)
      clear hno
      have hni:x∉l:=fun hm=>NO.out x (by rw [←HN.out,List.take_length];exact hm) rfl
      have HNI:=Lib.hid hni
      clear hni
      go_wp2
      go_ret
      exact ⟨_,rfl,by rw [decide_eq_false HNI.out];rfl,rfl⟩
theorem contains_any (w:World) {v:Value} {l:List Int} (h:Vec Elem.ints w v l) {x:Int}:
    Calls Tryz.prog 237 #[v, .int .i64 x] w fun e w'=>e= .returned (.bool (decide (x∈l)))∧w'=w:=by
  have I:=Lib.hid (index_any w h (x:=x))
  obtain ⟨y,hy⟩: ∃y,decide (x∈l)=y:=⟨_,rfl⟩
  rw [hy] at I⊢
  clear h hy
  go_enter Tryz.func237,Tryz.ntmps237
  go_wp2_with fail
  refine I.out.mono ?_;rintro e w1 ⟨k,rfl,hk,rfl⟩
  go_wp2
  go_ret
  exact ⟨rfl,rfl⟩
theorem cas_sk (w:World) {s o:Nat} {S:SS} (h:SK w s o S) (g:S.t≤S.n) (hm:ManyB S) {t v:Nat} (ht:t≤S.t) (hv:v≤64):
    Calls Tryz.prog 223 #[.pointer (some ⟨s,o,none⟩), .int .u64 (t:Int), .int .u64 (v:Int)] w fun e w'=>e= .returned (.bool (decide (t=S.t)))∧(∀S':SS,S'.B=S.B→topW S'.L=(if t=S.t then v else topW S.L)→S'.t=(if t=S.t then S.t+1 else S.t)→S'.n=S.n+1→SK w' s o S')∧Wrt (fun _=>False) (SPl s o) w w':=by
  have hm':S.n≤999999999:=hm
  refine (cell_cas w h.cc hm.ask (show S.t≤1000000000 by omega) t v (by omega) (by omega)).mono ?_
  rintro e w1 ⟨h1,h2,h3⟩
  refine ⟨h1,fun S' e1 e2 e3 e4=>h.turn (by rw [e2,e3,e4];exact h2) h3 e1,h3.mono (fun _ h=>h) (fun b i hc=> .inr hc.spl)⟩
theorem put_arg (w:World) {s o:Nat} {p i:Int} {t:Nat} (hp:p<0∨64≤p):
    Calls Tryz.prog 196 #[.pointer (some ⟨s,o,none⟩), .int .i64 p, .int .i64 i, .int .u64 (t:Int)] w fun e w'=>e= .returned (.tuple #[.bool false, .int .i64 2])∧w'=w:=by
  have P:=Lib.hid (fun w'=>isPlace_no w' hp)
  clear hp
  go_enter Tryz.func196,Tryz.ntmps196
  go_wp2_with fail
  refine (P.out _).mono ?_;rintro e w1 ⟨rfl,rfl⟩
  go_wp2
  go_ret2
  exact ⟨rfl,rfl⟩
def putS (S:SS) (p:Nat) (i:Int) (t:Nat):SS:=if t=S.t then ⟨p::S.L,putB S.B p (wordI i),S.t+1,S.n+1⟩ else ⟨S.L,putB S.B p (wordI i),S.t,S.n+1⟩
def takeS (S:SS) (t:Nat):SS:=if t=S.t then ⟨S.L.tail,S.B,S.t+1,S.n+1⟩ else ⟨S.L,S.B,S.t,S.n+1⟩
theorem take_any (w:World) {s o:Nat} {S:SS} (h:SK w s o S) (g:GoodS S) (hm:ManyB S) {q:Nat} (hq:q<64) {t:Nat} (ht:t≤S.t) (hat:t=S.t→topI S.L=(q:Int)):
    Calls Tryz.prog 180 #[.pointer (some ⟨s,o,none⟩), .int .i64 (q:Int), .int .u64 (t:Int)] w fun e w'=>
      e= .returned (.tuple #[.bool (decide (t=S.t)), .int .i64 0])∧SK w' s o (takeS S t)∧Wrt (fun _=>False) (SPl s o) w w':=by
  have P:=Lib.hid (fun w'=>isPlace_yes w' hq)
  have cl:=h.cell hq
  have H:=Lib.hid h
  have e2:topW (takeS S t).L=(if t=S.t then S.B q else topW S.L):=by
    unfold takeS;split
    · rename_i e
      have:=hat e
      cases hl:S.L with
      |nil=>rw [hl] at this;simp only [topI] at this;omega
      | cons a l=>
        rw [hl] at this
        simp only [topI] at this
        have ea:a=q:=by omega
        have:=g.ch 0 a (by rw [hl];rfl)
        rw [hl] at this
        rw [←ea,this];rfl
    · rfl
  have e1:(takeS S t).B=S.B:=by unfold takeS;split<;>rfl
  have e3:(takeS S t).t=(if t=S.t then S.t+1 else S.t):=by unfold takeS;split<;>rfl
  have e4:(takeS S t).n=S.n+1:=by unfold takeS;split<;>rfl
  obtain ⟨v,hv⟩: ∃v,S.B q=v:=⟨_,rfl⟩
  have CS: ∀(w':World),SK w' s o S→Calls Tryz.prog 223 #[.pointer (some ⟨s,o,none⟩), .int .u64 (t:Int), .int .u64 (v:Int)] w' fun e w2=>e= .returned (.bool (decide (t=S.t)))∧SK w2 s o (takeS S t)∧w2.cell? ⟨s,o+3+q,none⟩=some (.int .u64 (v:Int))∧Wrt (fun _=>False) (SPl s o) w' w2:=fun w' h=>by
    rw [←hv]
    refine (cas_sk w' h g.tn hm ht (g.bb q)).mono ?_
    rintro e w2 ⟨k1,k2,k3⟩
    have k4:=k2 _ e1 e2 e3 e4
    have k5:=k4.cell hq
    rw [e1] at k5
    exact ⟨k1,k4,k5,k3⟩
  have CS:=Lib.hid CS
  rw [hv] at cl
  have q1:(0:Int)≤(q:Int):=by omega
  have q2:(q:Int)<64:=by omega
  clear h g hm ht hat e1 e2 e3 e4 hv
  go_enter Tryz.func180,Tryz.ntmps180
  go_wp2_with fail
  refine (P.out _).mono ?_;rintro e w1 ⟨rfl,k⟩;obtain rfl:=k.symm;clear k
  go_wp2
  go_region_held3 (fun w'=>w'.cell? ⟨s,o+3+q,none⟩=some (.int .u64 (v:Int))) (first|go_keep|exact cl) (first|(go_at_call 223;(first|(with_reducible refine (CS.out _ H.out).mono ?_)|(refine (CS.out _ (show SK w.drew s o _ from H.out)).mono ?_));rintro e w7 ⟨rfl,h7,c7,u7⟩;have cl:=c7;have S7:=Lib.hid h7;have U7:=Lib.hid u7;clear h7 u7 c7))
  go_wp2
  go_ret2
  exact ⟨rfl,S7.out,((Wrt.refl _ _ w).drewN 1).trans U7.out⟩
end Go.Proofs.YtippfeplogkaiaaGreatDoor
