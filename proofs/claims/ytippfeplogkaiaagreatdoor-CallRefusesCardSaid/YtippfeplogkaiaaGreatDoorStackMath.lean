/- Plain rows: a stack of places (who is on top, what is below each), and moves on it, step by step. -/
import Derived.Lib.Hide
namespace Go.Proofs.YtippfeplogkaiaaGreatDoor.StackMath
set_option linter.unusedVariables false
def topW:List Nat→Nat
  | []=>0
  |a::_=>a+1
def topI:List Nat→Int
  | []=> -1
  |a::_=>(a:Int)
def wordI (i:Int):Nat:=(i+1).toNat
structure SS where
  L:List Nat
  B:Nat→Nat
  t:Nat
  n:Nat
def putB (B:Nat→Nat) (p v:Nat):Nat→Nat:=fun x=>if x=p then v else B x
structure GoodS (S:SS):Prop where
  nd:S.L.Nodup
  lt: ∀x∈S.L,x<64
  ch: ∀k a,S.L[k]? =some a→S.B a=topW (S.L.drop (k+1))
  bb: ∀x,S.B x≤64
  tn:S.t≤S.n
def s0:SS:=⟨[],fun _=>0,0,0⟩
structure MV where
  push:Bool
  place:Nat
  looked:Bool
  top:Int
  tag:Nat
  over:Bool
def mPush (p:Nat):MV:=⟨true,p,false,0,0,false⟩
structure GoodM (S:SS) (M:MV):Prop where
  pl:M.place<64
  tg:M.tag≤S.t
  lo: -1≤M.top∧M.top≤63
  po:M.looked=true→M.push=false→M.over=false→0≤M.top
  att:M.looked=true→M.tag=S.t→M.top=topI S.L
def lookE (S:SS) (M:MV):SS×MV:=(⟨S.L,S.B,S.t,S.n+1⟩,⟨M.push,M.place,true,topI S.L,S.t, !M.push&&decide (topI S.L= -1)⟩)
def putE (S:SS) (M:MV):SS×MV:=
  if M.place∈S.L then (S,⟨M.push,M.place,false,M.top,M.tag,true⟩)
  else if M.tag=S.t then (⟨M.place::S.L,putB S.B M.place (wordI M.top),S.t+1,S.n+1⟩,⟨M.push,M.place,false,M.top,M.tag,true⟩)
  else (⟨S.L,putB S.B M.place (wordI M.top),S.t,S.n+1⟩,⟨M.push,M.place,false,M.top,M.tag,false⟩)
def takeE (S:SS) (M:MV):SS×MV:=
  if M.tag=S.t then (⟨S.L.tail,S.B,S.t+1,S.n+1⟩,⟨M.push,M.place,false,M.top,M.tag,true⟩)
  else (⟨S.L,S.B,S.t,S.n+1⟩,⟨M.push,M.place,false,M.top,M.tag,false⟩)
def stepE (S:SS) (M:MV):SS×MV:=
  if M.over then (S,M) else if M.looked=false then lookE S M else if M.push then putE S M else takeE S M
def placeE (M:MV):Int:=if M.push then (M.place:Int) else if M.over then M.top else-1
theorem nodup_le: ∀(n:Nat) (acc:List Nat),acc.Nodup→(∀k∈acc,k<n)→acc.length≤n
  | 0,acc,_,h=>by
    cases acc with
    |nil=>exact Nat.le_refl _
    |cons x t=>have:=h x (List.mem_cons_self ..);omega
  | n +1,acc,hn,h=>by
    have h1:=nodup_le n (acc.erase n) (hn.erase n) (fun k hk=>by
      have h2:=(hn.mem_erase_iff).1 hk
      have:=h k h2.2
      omega)
    have h3:=List.length_erase (a:=n) (l:=acc)
    by_cases hm:n∈acc
    · rw [h3,if_pos hm] at h1;omega
    · rw [h3,if_neg hm] at h1;omega
theorem topI_le {L:List Nat} (h: ∀x∈L,x<64): -1≤topI L∧topI L≤63:=by
  cases L with
  |nil=>decide
  |cons a t=>have:=h a (by simp);simp only [topI];omega
theorem topW_le {L:List Nat} (h: ∀x∈L,x<64):topW L≤64:=by
  cases L with
  |nil=>decide
  |cons a t=>have:=h a (by simp);simp only [topW];omega
theorem wordI_top (L:List Nat):wordI (topI L)=topW L:=by
  cases L with
  |nil=>rfl
  |cons a t=>simp only [wordI,topI,topW];omega
theorem wordI_le {i:Int} (h:i≤63):wordI i≤64:=by unfold wordI;omega
theorem topI_word (L:List Nat):topI L=(topW L:Int)-1:=by
  cases L with
  |nil=>rfl
  |cons a t=>simp only [topI,topW];omega
theorem GoodS.zero:GoodS s0:=⟨List.nodup_nil,fun x h=>(by cases h),fun k a h=>(by simp [s0] at h),fun x=>Nat.zero_le _,Nat.le_refl _⟩
section
variable {S:SS} {M M2:MV}
theorem GoodS.len (h:GoodS S):S.L.length≤64:=nodup_le 64 S.L h.nd h.lt
theorem GoodS.look (h:GoodS S) (M:MV):GoodS (lookE S M).1:=⟨h.nd,h.lt,h.ch,h.bb,Nat.le_succ_of_le h.tn⟩
theorem putB_bb {B:Nat→Nat} {p v:Nat} (h: ∀x,B x≤64) (hv:v≤64): ∀x,putB B p v x≤64:=fun x=>by
  unfold putB;split
  · exact hv
  · exact h x
theorem putB_ne {B:Nat→Nat} {p v x:Nat} (h:x≠p):putB B p v x=B x:=if_neg h
theorem putB_self {B:Nat→Nat} {p v:Nat}:putB B p v p=v:=if_pos rfl
theorem GoodS.put (h:GoodS S) (g:GoodM S M) (hl:M.looked=true):GoodS (putE S M).1:=by
  unfold putE
  by_cases hp:M.place∈S.L
  · rw [if_pos hp];exact h
  · rw [if_neg hp]
    have hbb:=putB_bb (p:=M.place) h.bb (wordI_le g.lo.2)
    have hch: ∀k a,S.L[k]? =some a→putB S.B M.place (wordI M.top) a=topW (S.L.drop (k+1)):=fun k a hk=>by
      rw [putB_ne (fun e=>hp (by rw [←e];exact List.mem_of_getElem? hk))];exact h.ch k a hk
    by_cases ht:M.tag=S.t
    · rw [if_pos ht]
      refine ⟨List.nodup_cons.2 ⟨hp,h.nd⟩,fun x hx=> ?_,fun k a hk=> ?_,hbb,Nat.succ_le_succ h.tn⟩
      · rcases List.mem_cons.1 hx with rfl|hx
        · exact g.pl
        · exact h.lt x hx
      · cases k with
        | zero=>
          simp only [List.getElem?_cons_zero,Option.some.injEq] at hk
          subst hk
          show putB S.B M.place (wordI M.top) M.place=_
          rw [putB_self,g.att hl ht,wordI_top];rfl
        | succ k=>
          simp only [List.getElem?_cons_succ] at hk
          exact hch k a hk
    · rw [if_neg ht]
      exact ⟨h.nd,h.lt,hch,hbb,Nat.le_succ_of_le h.tn⟩
theorem GoodS.take (h:GoodS S) (M:MV):GoodS (takeE S M).1:=by
  unfold takeE
  by_cases ht:M.tag=S.t
  · rw [if_pos ht]
    refine ⟨h.nd.tail,fun x hx=>h.lt x (List.mem_of_mem_tail hx),fun k a hk=> ?_,h.bb,Nat.succ_le_succ h.tn⟩
    show S.B a=topW (S.L.tail.drop (k+1))
    rw [List.getElem?_tail] at hk
    rw [h.ch (k+1) a hk,List.drop_tail]
  · rw [if_neg ht];exact ⟨h.nd,h.lt,h.ch,h.bb,Nat.le_succ_of_le h.tn⟩
theorem GoodS.step (h:GoodS S) (g:GoodM S M):GoodS (stepE S M).1:=by
  unfold stepE
  by_cases h1:M.over=true
  · rw [if_pos h1];exact h
  · rw [if_neg h1]
    by_cases h2:M.looked=false
    · rw [if_pos h2];exact h.look M
    · rw [if_neg h2]
      by_cases h3:M.push=true
      · rw [if_pos h3];exact h.put g (by simpa using h2)
      · rw [if_neg h3];exact h.take M
theorem step_way (S:SS) (M:MV):((stepE S M).1.t=S.t∧(stepE S M).1.L=S.L)∨(stepE S M).1.t=S.t+1:=by
  unfold stepE lookE putE takeE
  repeat' split
  all_goals simp
theorem GoodM.other (g2:GoodM S M2) (M:MV):GoodM (stepE S M).1 M2:=by
  rcases step_way S M with ⟨e1,e2⟩|e1
  · exact ⟨g2.pl,by rw [e1];exact g2.tg,g2.lo,g2.po,fun hl ht=>by rw [e2];exact g2.att hl (by rw [←e1];exact ht)⟩
  · exact ⟨g2.pl,by rw [e1];exact Nat.le_succ_of_le g2.tg,g2.lo,g2.po,fun hl ht=>by have:=g2.tg;rw [e1] at ht;omega⟩
theorem GoodM.step (h:GoodS S) (g:GoodM S M):GoodM (stepE S M).1 (stepE S M).2:=by
  unfold stepE
  by_cases h1:M.over=true
  · rw [if_pos h1];exact g
  · rw [if_neg h1]
    by_cases h2:M.looked=false
    · rw [if_pos h2]
      have hb:=topI_le h.lt
      refine ⟨g.pl,Nat.le_refl _,hb,fun _ hp ho=> ?_,fun _ _=>rfl⟩
      simp only [lookE] at hp ho⊢
      rw [hp] at ho
      simp only [Bool.not_false,Bool.true_and,decide_eq_false_iff_not] at ho
      omega
    · rw [if_neg h2]
      by_cases h3:M.push=true
      · rw [if_pos h3]
        unfold putE
        repeat' split
        all_goals refine ⟨g.pl, ?_,g.lo,(fun hl=>by simp at hl),(fun hl=>by simp at hl)⟩
        · exact g.tg
        · exact Nat.le_succ_of_le g.tg
        · exact g.tg
      · rw [if_neg h3]
        unfold takeE
        split
        all_goals refine ⟨g.pl, ?_,g.lo,(fun hl=>by simp at hl),(fun hl=>by simp at hl)⟩
        · exact Nat.le_succ_of_le g.tg
        · exact g.tg
theorem goodM_push (S:SS) {p:Nat} (hp:p<64):GoodM S (mPush p):=⟨hp,Nat.zero_le _,⟨show (-1:Int)≤0 by decide,show (0:Int)≤63 by decide⟩,(fun h=>by cases h),(fun h=>by cases h)⟩
theorem step_n (S:SS) (M:MV):S.n≤(stepE S M).1.n∧(stepE S M).1.n≤S.n+1:=by
  unfold stepE lookE putE takeE
  repeat' split
  all_goals simp
end
def pushS (S:SS) (p:Nat):SS:=if p∈S.L then ⟨S.L,S.B,S.t,S.n+1⟩ else ⟨p::S.L,putB S.B p (topW S.L),S.t+1,S.n+2⟩
def aloneE (S:SS) (M:MV):Nat→SS×MV
  |0=>(S,M)
  |k+1=>stepE (aloneE S M k).1 (aloneE S M k).2
theorem push_two (S:SS) (p:Nat):(aloneE S (mPush p) 0).2.over=false∧(aloneE S (mPush p) 1).2.over=false∧(aloneE S (mPush p) 2).1=pushS S p∧(aloneE S (mPush p) 2).2.over=true∧placeE (aloneE S (mPush p) 2).2=(p:Int):=by
  refine ⟨rfl,rfl, ?_, ?_, ?_⟩
  · simp only [aloneE,stepE,lookE,mPush,putE,pushS]
    by_cases h:p∈S.L
    · simp [h]
    · simp [h,wordI_top]
  · simp only [aloneE,stepE,lookE,mPush,putE]
    by_cases h:p∈S.L
    · simp [h]
    · simp [h]
  · simp only [aloneE,stepE,lookE,mPush,putE,placeE]
    by_cases h:p∈S.L
    · simp [h]
    · simp [h]
theorem alone_good {S:SS} {M:MV} (h:GoodS S) (g:GoodM S M): ∀k,GoodS (aloneE S M k).1∧GoodM (aloneE S M k).1 (aloneE S M k).2∧(aloneE S M k).1.n≤S.n+k
  |0=>⟨h,g,Nat.le_refl _⟩
  | k+1=>by
    obtain ⟨h1,h2,h3⟩:=alone_good h g k
    have:=(step_n (aloneE S M k).1 (aloneE S M k).2).2
    exact ⟨h1.step h2,h2.step h1,by show (stepE _ _).1.n≤_;omega⟩
theorem GoodS.pushS {S:SS} (h:GoodS S) {p:Nat} (hp:p<64):GoodS (pushS S p):=by
  rw [←(push_two S p).2.2.1];exact (alone_good h (goodM_push S hp) 2).1
end Go.Proofs.YtippfeplogkaiaaGreatDoor.StackMath
