/- Qlands12: texts of layers below, joined (QLand QLandB QLandC QPlc). -/
import Derived.Test.YtippfeplogkaiaaGreatDoorQueues12
import Derived.Test.YtippfeplogkaiaaGreatDoorPlaces
namespace Go.Proofs.YtippfeplogkaiaaGreatDoor
open Go.RowKit Go.Maps QueueMath
set_option linter.unusedVariables false
set_option maxRecDepth 100000
def PS (w:World) (p:Option Addr) (O:Nat→Prop) (S:QR):Prop:=(p=none∧S=q0)∨ ∃rb,p=some ⟨rb,0,none⟩∧RwsN w rb O S
theorem PS.upd {w w':World} {p:Option Addr} {O S':Nat→Prop} {S:QR} (h:PS w p O S) (u:Upd S' w w') (hs: ∀k,S' k→ ¬O k):PS w' p O S:=by
  rcases h with h|⟨rb,e,h⟩
  · exact .inl h
  · exact .inr ⟨rb,e,h.upd u hs⟩
def PsPost (w:World) (p:Option Addr) (O:Nat→Prop) (S':QR) (a:Int) (e:Ending) (w':World):Prop:=
  e= .returned (.int .i64 a)∧ ∃O',PS w' p O' S'∧(∀k,O k→O' k)∧(∀k,O' k→O k∨(w.heap.size≤k∧k<w'.heap.size))∧Upd O w w'
theorem ps_of {w w':World} {rb:Nat} {O:Nat→Prop} {S':QR} {a:Int} {e:Ending} (h:RnPost w rb O S' a e w'):PsPost w (some ⟨rb,0,none⟩) O S' a e w':=by
  obtain ⟨h1,O',h2,h3,h4,h5⟩:=h
  exact ⟨h1,O', .inr ⟨rb,rfl,h2⟩,h3,h4,h5⟩
section
variable {w:World} {p:Option Addr} {O:Nat→Prop} {S:QR} {x:Int}
theorem ps_remove (h:PS w p O S) (hx:I64 x):Calls Tryz.prog 248 #[.pointer p, .int .i64 x] w fun e w'=>PsPost w p O (removeE S [x]).1 (removeE S [x]).2 e w':=by
  rcases h with ⟨rfl,rfl⟩|⟨rb,rfl,h⟩
  · exact (remove_none1 ((find_nil w x))).mono fun e w' ⟨e1,e2⟩=>by subst e2;exact ⟨e1,O, .inl ⟨rfl,rfl⟩,fun _=>id,fun _=> .inl,Upd.refl _ _⟩
  · exact (rn_remove h hx).mono fun e w'=>ps_of
theorem ps_fill (h:PS w p O S) (hx:I64 x):Calls Tryz.prog 251 #[.pointer p, .int .i64 x] w fun e w'=>PsPost w p O (fillE S x).1 (fillE S x).2 e w':=by
  rcases h with ⟨rfl,rfl⟩|⟨rb,rfl,h⟩
  · exact (fill_none1 ((find_nil w x))).mono fun e w' ⟨e1,u⟩=>⟨e1,O, .inl ⟨rfl,rfl⟩,fun _=>id,fun _=> .inl,u.mono fun _ x=>x.elim⟩
  · exact (rn_fill h hx).mono fun e w'=>ps_of
theorem ps_wake (h:PS w p O S) (hx:I64 x):Calls Tryz.prog 281 #[.pointer p, .int .i64 x] w fun e w'=>PsPost w p O (wakeE S x).1 (wakeE S x).2 e w':=by
  rcases h with ⟨rfl,rfl⟩|⟨rb,rfl,h⟩
  · exact (wake_none1 ((find_nil w x))).mono fun e w' ⟨e1,u⟩=>⟨e1,O, .inl ⟨rfl,rfl⟩,fun _=>id,fun _=> .inl,u.mono fun _ x=>x.elim⟩
  · exact (rn_wake h hx).mono fun e w'=>ps_of
end
def QuS (w:World) (b:Nat) (O:Nat→Prop) (S:QR):Prop:=
  ∃(p:Option Addr) (Or:Nat→Prop),Blk w b 223 #[.pointer p]∧PS w p Or S∧ ¬Or b∧O b∧(∀k,Or k→O k)∧(∀k,O k→k<w.heap.size)∧ ∀x∈S.all,I64 x
theorem QuS.upd {w:World} {b:Nat} {O:Nat→Prop} {S:QR} {w':World} {T:Nat→Prop} (h:QuS w b O S) (u:Upd T w w') (hT: ∀k,T k→ ¬O k):QuS w' b O S:=by
  obtain ⟨p,Or,hb,hp,h1,h2,h3,h4,h5⟩:=h
  exact ⟨p,Or,hb.upd u (fun x=>hT b x h2),hp.upd u fun k hk x=>hT k hk (h3 k x),h1,h2,h3,fun k hk=>Nat.lt_of_lt_of_le (h4 k hk) u.size,h5⟩
theorem QuS.zero (w:World):QuS (w.alloc (.cells zeroQ 223)) w.heap.size (fun k=>k=w.heap.size) q0:=
  ⟨none,fun _=>False,Blk.new w _ _, .inl ⟨rfl,rfl⟩,id,rfl,fun _ x=>x.elim,fun k hk=>by rw [World.size_alloc];omega,fun x hx=>by cases hx⟩
theorem PsPost.qu {w w':World} {b:Nat} {p:Option Addr} {O Or:Nat→Prop} {S':QR} {a:Int} {e:Ending} (h:PsPost w p Or S' a e w') (hb:Blk w b 223 #[.pointer p]) (h1: ¬Or b) (h2:O b) (h3: ∀k,Or k→O k) (h4: ∀k,O k→k<w.heap.size) (h5: ∀x∈S'.all,I64 x):
    e= .returned (.int .i64 a)∧ ∃O',QuS w' b O' S'∧(∀k,O' k→O k∨w.heap.size≤k)∧Upd O w w':=by
  obtain ⟨e1,O1,k1,k2,k3,u⟩:=h
  refine ⟨e1,fun k=>O k∨O1 k,⟨p,O1,hb.upd u h1,k1,fun hh=> ?_, .inl h2,fun k=> .inr,fun k hk=> ?_,h5⟩,fun k hk=> ?_,u.mono h3⟩
  · rcases k3 b hh with x|x
    · exact h1 x
    · have:=hb.lt;omega
  · have us:=u.size
    rcases hk with hk|hk
    · have:=h4 k hk;omega
    · rcases k3 k hk with x|x
      · have:=h4 k (h3 k x);omega
      · exact x.2
  · rcases hk with hk|hk
    · exact .inl hk
    · rcases k3 k hk with x|x
      · exact .inl (h3 k x)
      · exact .inr x.1
theorem mem_out_sub {S:QR} {x:Int} (hS: ∀y∈S.all,I64 y) (hx:I64 x):(∀y∈(pushE S [x]).1.all,I64 y)∧(∀y∈(removeE S [x]).1.all,I64 y)∧(∀y∈(fillE S x).1.all,I64 y)∧ ∀y∈(wakeE S x).1.all,I64 y:=by
  have hR: ∀y∈S.R,I64 y:=fun y hy=>hS y (mem_all.2 (.inl hy))
  have hF: ∀y∈S.F,I64 y:=fun y hy=>hS y (mem_all.2 (.inr hy))
  have h1: ∀y∈S.R++ [x],I64 y:=fun y hy=>by
    rcases List.mem_append.1 hy with hy|hy
    · exact hR y hy
    · rw [List.mem_singleton.1 hy];exact hx
  have h2: ∀y∈S.F++ [x],I64 y:=fun y hy=>by
    rcases List.mem_append.1 hy with hy|hy
    · exact hF y hy
    · rw [List.mem_singleton.1 hy];exact hx
  refine ⟨fun y hy=> ?_,fun y hy=> ?_,fun y hy=> ?_,fun y hy=> ?_⟩
  · by_cases h:x∈S.all
    · rw [push_there h] at hy;exact hS y hy
    · rw [push_new h] at hy
      rcases mem_all.1 hy with hy|hy
      · exact h1 y hy
      · exact hF y hy
  · by_cases h:x∈S.all
    · rw [remove_there h] at hy
      rcases mem_all.1 hy with hy|hy
      · exact hR y (mem_out.1 hy).1
      · exact hF y (mem_out.1 hy).1
    · rw [remove_none h] at hy;exact hS y hy
  · by_cases h:x∈S.R
    · rw [fill_yes h] at hy
      rcases mem_all.1 hy with hy|hy
      · exact hR y (mem_out.1 hy).1
      · exact h2 y hy
    · rw [fill_no h] at hy;exact hS y hy
  · by_cases h:x∈S.F
    · rw [wake_yes h] at hy
      rcases mem_all.1 hy with hy|hy
      · exact h1 y hy
      · exact hF y (mem_out.1 hy).1
    · rw [show wakeE S x=(S,5) from if_neg h] at hy;exact hS y hy
def LoR (w:World) (f:QR→List Int→QR×Int) (b:Nat) (p:Option Addr) (O:Nat→Prop) (S:QR) (l:List Int) (i:Value) (wr:World):Prop:=
  ∃(t:Nat) (S1:QR) (O1:Nat→Prop),t≤l.length∧i= .int .i64 (t:Int)∧f S l=f S1 (l.drop t)∧Blk wr b 223 #[.pointer p]∧PS wr p O1 S1∧ ¬O1 b∧(∀k,O1 k→O k∨(w.heap.size≤k∧k<wr.heap.size))∧(∀x∈S1.all,I64 x)∧S1.all.length≤S.all.length+t∧Upd O w wr
theorem LoR.next {w wr w':World} {f:QR→List Int→QR×Int} {b:Nat} {p:Option Addr} {O O1:Nat→Prop} {S S2:QR} {l:List Int} {t:Nat} {a:Int} {e:Ending} (hb:Blk wr b 223 #[.pointer p]) (hlt:b<w.heap.size) (h1: ¬O1 b) (h2: ∀k,O1 k→O k∨(w.heap.size≤k∧k<wr.heap.size)) (h4: ∀k,O k→k<w.heap.size) (u:Upd O w wr)
    (hq:PsPost wr p O1 S2 a e w') (ht:t+1≤l.length) (hf:f S l=f S2 (l.drop (t+1))) (h5: ∀x∈S2.all,I64 x) (hl:S2.all.length≤S.all.length+(t+1)):LoR w f b p O S l (.int .i64 ((t+1:Nat):Int)) w':=by
  obtain ⟨e1,O2,k1,k2,k3,u2⟩:=hq
  have us:=u.size
  refine ⟨t+1,S2,O2,ht,rfl,hf,hb.upd u2 h1,k1,fun hh=> ?_,fun k hk=> ?_,h5,hl,u.step u2 fun k hk=> ?_⟩
  · rcases k3 b hh with x|x
    · exact h1 x
    · omega
  · rcases k3 k hk with x|x
    · rcases h2 k x with y|y
      · exact .inl y
      · exact .inr ⟨y.1,by have:=u2.size;omega⟩
    · exact .inr ⟨by omega,x.2⟩
  · rcases h2 k hk with y|y
    · exact .inl y
    · exact .inr y.1
theorem LoR.qu {w wr:World} {b:Nat} {p:Option Addr} {O O1:Nat→Prop} {S1:QR} (hb:Blk wr b 223 #[.pointer p]) (hp:PS wr p O1 S1) (h1: ¬O1 b) (h2: ∀k,O1 k→O k∨(w.heap.size≤k∧k<wr.heap.size)) (hO:O b) (h4: ∀k,O k→k<w.heap.size) (h5: ∀x∈S1.all,I64 x) (u:Upd O w wr):
    ∃O',QuS wr b O' S1∧(∀k,O' k→O k∨w.heap.size≤k)∧Upd O w wr:=by
  refine ⟨fun k=>O k∨O1 k,⟨p,O1,hb,hp,h1, .inl hO,fun k=> .inr,fun k hk=> ?_,h5⟩,fun k hk=> ?_,u⟩
  · have us:=u.size
    rcases hk with hk|hk
    · have:=h4 k hk;omega
    · rcases h2 k hk with y|y
      · have:=h4 k y;omega
      · exact y.2
  · rcases hk with hk|hk
    · exact .inl hk
    · rcases h2 k hk with y|y
      · exact .inl y
      · exact .inr y.1
theorem LoR.stop {w wr w':World} {b:Nat} {p:Option Addr} {O O1:Nat→Prop} {S2:QR} {a:Int} {e:Ending} (hb:Blk wr b 223 #[.pointer p]) (hlt:b<w.heap.size) (h1: ¬O1 b) (h2: ∀k,O1 k→O k∨(w.heap.size≤k∧k<wr.heap.size)) (hO:O b) (h4: ∀k,O k→k<w.heap.size) (u:Upd O w wr)
    (hq:PsPost wr p O1 S2 a e w') (h5: ∀x∈S2.all,I64 x): ∃O',QuS w' b O' S2∧(∀k,O' k→O k∨w.heap.size≤k)∧Upd O w w':=by
  obtain ⟨t,S9,O9,-,-,e9,k1,k2,k3,k4,k5,-,k7⟩:=LoR.next (f:=fun S _=>(S,0)) (S:=S2) (S2:=S2) (l:= [0]) (t:=0) hb hlt h1 h2 h4 u hq (by simp) rfl h5 (by omega)
  simp only [Prod.mk.injEq,and_true] at e9
  subst e9
  exact LoR.qu k1 k2 k3 k4 hO h4 k5 k7
theorem PsPost.un {w w':World} {p:Option Addr} {O:Nat→Prop} {S':QR} {a:Int} {e:Ending} (h:PsPost w p O S' a e w'):e= .returned (.int .i64 a)∧PsPost w p O S' a e w':=⟨h.1,h⟩
set_option maxHeartbeats 4000000 in
theorem qs_remove (w:World) {b:Nat} {O:Nat→Prop} {S:QR} {v:Value} {l:List Int} (h:QuS w b O S) (hv:Arr w v l) (hn:Apt v l O):
    Calls Tryz.prog 216 #[.pointer (some ⟨b,0,none⟩),v] w fun e w'=>e= .returned (.int .i64 (removeE S l).2)∧ ∃O',QuS w' b O' (removeE S l).1∧(∀k,O' k→O k∨w.heap.size≤k)∧Upd O w w':=by
  obtain ⟨p,Or,hb,hp,h1,h2,h3,h4,h5⟩:=h
  obtain ⟨a,c,rfl,hc1,hc2⟩:=hv.out
  obtain ⟨n,hnl⟩: ∃n,l.length=n:=⟨_,rfl⟩
  rw [hnl] at hv hn hc1⊢
  have VA:=Lib.hid hv;have VN:=Lib.hid hn;have HL:=Lib.hid hnl;have HO:=Lib.hid h2;have H4:=Lib.hid h4;have HBLT:=Lib.hid hb.lt
  have I0:Hid (LoR w removeE b p O S l (.int .i64 0) w):=Lib.hid ⟨0,S,Or,Nat.zero_le _,rfl,rfl,hb,hp,h1,fun k hk=> .inl (h3 k hk),h5,Nat.le_refl _,Upd.refl _ _⟩
  clear hb hp h1 h2 h3 h4 h5 hv hn hnl
  go_enter Tryz.func216,Tryz.ntmps216
  go_wp2
  go_loopw [12] (fun i wr=>LoR w removeE b p O S l i wr) (fun i _=>n-(intOf i).toNat)
  case atStart=>exact I0.out
  case round=>
    clear I0
    obtain ⟨t,S1,O1,ht,rfl,hf,hb,hp,h1,h2,h5,hl,u⟩:=hrel
    rw [HL.out] at ht
    by_cases htn:t<n
    · obtain ⟨b3,off3,x,ea,hx,hxm,hx64,d0⟩:=(VA.out.updA u VN.out).at (t:=t) (by rw [HL.out];exact htn)
      subst ea
      have c0:wr.cell? ⟨b,0,none⟩=some (.pointer p):=hb.cell 0
      have K1:=ps_remove hp hx64
      have ed:l.drop t=x::l.drop (t+1):=List.drop_eq_getElem?_toList_append.trans (by rw [hx];rfl)
      have hg:=mem_out_sub h5 hx64
      have t2:decide ((t:Int)<(n:Int))=true:=decide_eq_true (by omega)
      have t2':decide (t<n)=true:=decide_eq_true htn
      have q3:(0:Int)≤(t:Int):=by omega
      have q4:(t:Int)<(n:Int):=by omega
      by_cases hm:x∈S1.all
      · rw [remove_there hm] at K1
        have NX:Hid (∀e w',PsPost wr p O1 ⟨QueueMath.out S1.R x,QueueMath.out S1.F x⟩ 0 e w'→LoR w removeE b p O S l (.int .i64 ((t+1:Nat):Int)) w'):=Lib.hid fun e w' hq=>LoR.next hb HBLT.out h1 h2 H4.out u hq (by rw [HL.out];omega) (by rw [hf,ed];exact if_pos hm) (by have:=hg.2.1;rw [remove_there hm] at this;exact this) (by have y1:=out_len S1.R x;have y2:=out_len S1.F x;simp only [QR.all,List.length_append] at hl⊢;omega)
        have K:=Lib.hid (K1.mono fun e w' hq=>hq.un)
        rw [show ((t+1:Nat):Int)=(t:Int)+1 by omega] at NX
        clear hf hb hp h1 h2 h5 hl u hg K1 ed hx hxm hx64 hm
        go_wp2_with fail
        refine K.out.mono ?_;rintro e w1 ⟨rfl,hq⟩
        have N1:=Lib.hid (NX.out _ _ hq)
        clear hq c0
        go_wp2
        go_roundw
        case rel=>exact N1.out
        case measure=>simp [intOf];omega
      · rw [remove_none hm] at K1
        have K:=Lib.hid (K1.mono fun e w' hq=>hq.un)
        have FIN:Hid (removeE S l=(S1,5)∧ ∀e w',PsPost wr p O1 S1 5 e w'→ ∃O',QuS w' b O' S1∧(∀k,O' k→O k∨w.heap.size≤k)∧Upd O w w'):=Lib.hid ⟨by rw [hf,ed];exact if_neg hm,fun e w' hq=>by
          exact LoR.stop hb HBLT.out h1 h2 HO.out H4.out u hq h5⟩
        clear hf hb hp h1 h2 h5 hl u hg K1 ed hx hxm hx64 hm
        go_wp2_with fail
        refine K.out.mono ?_;rintro e w1 ⟨rfl,hq⟩
        have N1:=Lib.hid (FIN.out.2 _ _ hq)
        have EQ:=Lib.hid FIN.out.1
        clear hq c0
        go_wp2
        go_ret
        rw [EQ.out]
        exact ⟨rfl,N1.out⟩
    · obtain rfl:t=n:=by omega
      have t2:decide ((t:Int)<(t:Int))=false:=decide_eq_false (by omega)
      have Q:=Lib.hid (LoR.qu hb hp h1 h2 HO.out H4.out h5 u)
      have e9:l.drop t= []:=List.drop_eq_nil_of_le (by rw [HL.out];exact Nat.le_refl _)
      have HF:=Lib.hid hf;have E9:=Lib.hid e9
      clear hf hb hp h1 h2 h5 hl u e9
      go_wp2
      go_ret
      rw [HF.out,E9.out]
      exact ⟨rfl,Q.out⟩
theorem ps_push {w:World} {rb:Nat} {O:Nat→Prop} {S:QR} {x:Int} (h:PS w (some ⟨rb,0,none⟩) O S) (hx:I64 x) (hm:S.all.length≤many):Calls Tryz.prog 280 #[.pointer (some ⟨rb,0,none⟩), .int .i64 x] w fun e w'=>PsPost w (some ⟨rb,0,none⟩) O (pushE S [x]).1 (pushE S [x]).2 e w':=by
  rcases h with ⟨h,_⟩|⟨rb',e,h⟩
  · cases h
  · injection e with e;injection e with e;subst e;exact (rn_push h hx hm).mono fun e w'=>ps_of
set_option maxHeartbeats 4000000 in
theorem qs_push (w:World) {b:Nat} {O:Nat→Prop} {S:QR} {v:Value} {l:List Int} (h:QuS w b O S) (hv:Arr w v l) (hn:Apt v l O) (hmany:S.all.length+l.length≤many):
    Calls Tryz.prog 255 #[.pointer (some ⟨b,0,none⟩),v] w fun e w'=>e= .returned (.int .i64 (pushE S l).2)∧ ∃O',QuS w' b O' (pushE S l).1∧(∀k,O' k→O k∨w.heap.size≤k)∧Upd O w w':=by
  obtain ⟨p,Or,hb,hp,h1,h2,h3,h4,h5⟩:=h
  obtain ⟨a,c,rfl,hc1,hc2⟩:=hv.out
  obtain ⟨n,hnl⟩: ∃n,l.length=n:=⟨_,rfl⟩
  rw [hnl] at hv hn hc1 hmany⊢
  have VA:=Lib.hid hv;have VN:=Lib.hid hn;have HL:=Lib.hid hnl;have HO:=Lib.hid h2;have H4:=Lib.hid h4;have HBLT:=Lib.hid hb.lt;have HMA:=Lib.hid hmany
  have c0:w.cell? ⟨b,0,none⟩=some (.pointer p):=hb.cell 0
  rcases id hp with ⟨rfl,rfl⟩|⟨rb,rfl,hN⟩
  · have z0 :w.frozen? ⟨b,0,none⟩=false:=hb.frozen 0
    have hmm:= @run_makeMap Tryz.prog
    have hsz:=hb.lt
    have ne1:w.heap.size≠b:=by omega
    have ne2:w.heap.size+1≠b:=by omega
    obtain ⟨m,hm⟩: ∃y,w.heap.size=y:=⟨_,rfl⟩
    obtain ⟨rb,hrb⟩: ∃y,m+1=y:=⟨_,rfl⟩
    obtain ⟨W2,hW2⟩: ∃y,(w.alloc (.map #[] 0)).alloc (.cells #[.pointer none, .pointer none, .pointer none, .pointer none, .map (some m)] 309)=y:=⟨_,rfl⟩
    have sz2:W2.heap.size=m+2:=by rw [←hW2];simp [hm]
    have u2:Upd (fun _=>False) w W2:=by rw [←hW2];exact ((Upd.refl _ w).alloc _).alloc _
    have bq:=(hb.upd u2 id).put 0 (.pointer (some ⟨rb,0,none⟩))
    have br:Blk W2 rb 309 #[.pointer none, .pointer none, .pointer none, .pointer none, .map (some m)]:=by rw [←hW2,←hrb,←hm];have:=Blk.new (w.alloc (.map #[] 0)) 309 #[.pointer none, .pointer none, .pointer none, .pointer none, .map (some w.heap.size)];rw [World.size_alloc] at this;exact this
    have hM:W2.ownsMap Tryz.prog 3 spElem m 0 (.map []):=by rw [←hW2,←hm];exact (World.ownsMap_made w _ _ _).alloc _
    have c2:W2.cell? ⟨b,0,none⟩=some (.pointer none):=(hb.upd u2 id).cell 0
    have z2:W2.frozen? ⟨b,0,none⟩=false:=(hb.upd u2 id).frozen 0
    have us:=(Upd.refl (fun k=>k=b) W2).setCell (p:=⟨b,0,none⟩) (.inl rfl) (.pointer (some ⟨rb,0,none⟩))
    have I0:Hid (LoR w pushE b (some ⟨rb,0,none⟩) O q0 l (.int .i64 0) (W2.setCell ⟨b,0,none⟩ (.pointer (some ⟨rb,0,none⟩)))):=Lib.hid ⟨0,q0,fun k=>k=m∨k=rb,Nat.zero_le _,rfl,rfl,by simpa using bq,
      .inr ⟨rb,rfl,m, [], [],⟨br.upd us (fun e=>by omega),trivial,trivial,⟨.map [],ownsMap_upd hM us (fun e=>by omega),atMap_nil⟩,List.nodup_nil,List.nodup_nil,(fun e he=>by cases he),(by omega),(fun e he=>by cases he)⟩,rfl, .inr rfl, .inl rfl,(fun e he=>by cases he)⟩,
      (fun hh=>by rcases hh with e|e<;>omega),(fun k hk=> .inr (by rw [World.size_setCell,sz2];rcases hk with e|e<;>omega)),(fun x hx=>by cases hx),Nat.le_refl _,(u2.mono fun _ x=>x.elim).trans (us.mono fun k hk=>by rw [hk];exact h2)⟩
    clear hb hp h1 h2 h3 h4 h5 hv hn hnl hmany br hM us bq u2
    go_enter Tryz.func255,Tryz.ntmps255
    go_wp2
    go_loopw [23] (fun i wr=>LoR w pushE b (some ⟨rb,0,none⟩) O q0 l i wr) (fun i _=>n-(intOf i).toNat)
    case atStart=>exact I0.out
    case round=>
      clear I0
      obtain ⟨t,S1,O1,ht,rfl,hf,hb,hp,h1,h2,h5,hl,u⟩:=hrel
      rw [HL.out] at ht
      by_cases htn:t<n
      · obtain ⟨b3,off3,x,ea,hx,hxm,hx64,d0⟩:=(VA.out.updA u VN.out).at (t:=t) (by rw [HL.out];exact htn)
        subst ea
        have c0:wr.cell? ⟨b,0,none⟩=some (.pointer (some ⟨rb,0,none⟩)):=hb.cell 0
        have hmm1:S1.all.length≤many:=by have:=HMA.out;omega
        have K1:=ps_push hp hx64 hmm1
        have ed:l.drop t=x::l.drop (t+1):=List.drop_eq_getElem?_toList_append.trans (by rw [hx];rfl)
        have hg:=mem_out_sub h5 hx64
        have t2:decide ((t:Int)<(n:Int))=true:=decide_eq_true (by omega)
        have t2':decide (t<n)=true:=decide_eq_true htn
        have q3:(0:Int)≤(t:Int):=by omega
        have q4:(t:Int)<(n:Int):=by omega
        by_cases hm:x∈S1.all
        · rw [push_there hm] at K1
          have K:=Lib.hid (K1.mono fun e w' hq=>hq.un)
          have FIN:Hid (pushE q0 l=(S1,6)∧ ∀e w',PsPost wr (some ⟨rb,0,none⟩) O1 S1 6 e w'→ ∃O',QuS w' b O' S1∧(∀k,O' k→O k∨w.heap.size≤k)∧Upd O w w'):=Lib.hid ⟨by rw [hf,ed];exact if_pos hm,fun e w' hq=>by
            exact LoR.stop hb HBLT.out h1 h2 HO.out H4.out u hq h5⟩
          clear hf hb hp h1 h2 h5 hl u hg K1 ed hx hxm hx64 hm
          go_wp2_with fail
          refine K.out.mono ?_;rintro e w1 ⟨rfl,hq⟩
          have N1:=Lib.hid (FIN.out.2 _ _ hq)
          have EQ:=Lib.hid FIN.out.1
          clear hq c0
          go_wp2
          go_ret
          rw [EQ.out]
          exact ⟨rfl,N1.out⟩
        · rw [push_new hm] at K1
          have NX:Hid (∀e w',PsPost wr (some ⟨rb,0,none⟩) O1 ⟨S1.R++ [x],S1.F⟩ 0 e w'→LoR w pushE b (some ⟨rb,0,none⟩) O q0 l (.int .i64 ((t+1:Nat):Int)) w'):=Lib.hid fun e w' hq=>LoR.next hb HBLT.out h1 h2 H4.out u hq (by rw [HL.out];omega) (by rw [hf,ed];exact if_neg hm) (by have:=hg.1;rw [push_new hm] at this;exact this) (by simp only [QR.all,List.length_append,List.length_cons,List.length_nil] at hl⊢;omega)
          have K:=Lib.hid (K1.mono fun e w' hq=>hq.un)
          rw [show ((t+1:Nat):Int)=(t:Int)+1 by omega] at NX
          clear hf hb hp h1 h2 h5 hl u hg K1 ed hx hxm hx64 hm
          go_wp2_with fail
          refine K.out.mono ?_;rintro e w1 ⟨rfl,hq⟩
          have N1:=Lib.hid (NX.out _ _ hq)
          clear hq c0
          go_wp2
          go_roundw
          case rel=>exact N1.out
          case measure=>simp [intOf];omega
      · obtain rfl:t=n:=by omega
        have t2:decide ((t:Int)<(t:Int))=false:=decide_eq_false (by omega)
        have Q:=Lib.hid (LoR.qu hb hp h1 h2 HO.out H4.out h5 u)
        have e9:l.drop t= []:=List.drop_eq_nil_of_le (by rw [HL.out];exact Nat.le_refl _)
        have HF:=Lib.hid hf;have E9:=Lib.hid e9
        clear hf hb hp h1 h2 h5 hl u e9
        go_wp2
        go_ret
        rw [HF.out,E9.out]
        exact ⟨rfl,Q.out⟩
  · have I0 :Hid (LoR w pushE b (some ⟨rb,0,none⟩) O S l (.int .i64 0) w):=Lib.hid ⟨0,S,Or,Nat.zero_le _,rfl,rfl,hb,hp,h1,fun k hk=> .inl (h3 k hk),h5,Nat.le_refl _,Upd.refl _ _⟩
    clear hb hp h1 h2 h3 h4 h5 hv hn hnl hmany hN
    go_enter Tryz.func255,Tryz.ntmps255
    go_wp2
    go_loopw [23] (fun i wr=>LoR w pushE b (some ⟨rb,0,none⟩) O S l i wr) (fun i _=>n-(intOf i).toNat)
    case atStart=>exact I0.out
    case round=>
      clear I0
      obtain ⟨t,S1,O1,ht,rfl,hf,hb,hp,h1,h2,h5,hl,u⟩:=hrel
      rw [HL.out] at ht
      by_cases htn:t<n
      · obtain ⟨b3,off3,x,ea,hx,hxm,hx64,d0⟩:=(VA.out.updA u VN.out).at (t:=t) (by rw [HL.out];exact htn)
        subst ea
        have c0:wr.cell? ⟨b,0,none⟩=some (.pointer (some ⟨rb,0,none⟩)):=hb.cell 0
        have hmm:S1.all.length≤many:=by have:=HMA.out;omega
        have K1:=ps_push hp hx64 hmm
        have ed:l.drop t=x::l.drop (t+1):=List.drop_eq_getElem?_toList_append.trans (by rw [hx];rfl)
        have hg:=mem_out_sub h5 hx64
        have t2:decide ((t:Int)<(n:Int))=true:=decide_eq_true (by omega)
        have t2':decide (t<n)=true:=decide_eq_true htn
        have q3:(0:Int)≤(t:Int):=by omega
        have q4:(t:Int)<(n:Int):=by omega
        by_cases hm:x∈S1.all
        · rw [push_there hm] at K1
          have K:=Lib.hid (K1.mono fun e w' hq=>hq.un)
          have FIN:Hid (pushE S l=(S1,6)∧ ∀e w',PsPost wr (some ⟨rb,0,none⟩) O1 S1 6 e w'→ ∃O',QuS w' b O' S1∧(∀k,O' k→O k∨w.heap.size≤k)∧Upd O w w'):=Lib.hid ⟨by rw [hf,ed];exact if_pos hm,fun e w' hq=>by
            exact LoR.stop hb HBLT.out h1 h2 HO.out H4.out u hq h5⟩
          clear hf hb hp h1 h2 h5 hl u hg K1 ed hx hxm hx64 hm
          go_wp2_with fail
          refine K.out.mono ?_;rintro e w1 ⟨rfl,hq⟩
          have N1:=Lib.hid (FIN.out.2 _ _ hq)
          have EQ:=Lib.hid FIN.out.1
          clear hq c0
          go_wp2
          go_ret
          rw [EQ.out]
          exact ⟨rfl,N1.out⟩
        · rw [push_new hm] at K1
          have NX:Hid (∀e w',PsPost wr (some ⟨rb,0,none⟩) O1 ⟨S1.R++ [x],S1.F⟩ 0 e w'→LoR w pushE b (some ⟨rb,0,none⟩) O S l (.int .i64 ((t+1:Nat):Int)) w'):=Lib.hid fun e w' hq=>LoR.next hb HBLT.out h1 h2 H4.out u hq (by rw [HL.out];omega) (by rw [hf,ed];exact if_neg hm) (by have:=hg.1;rw [push_new hm] at this;exact this) (by simp only [QR.all,List.length_append,List.length_cons,List.length_nil] at hl⊢;omega)
          have K:=Lib.hid (K1.mono fun e w' hq=>hq.un)
          rw [show ((t+1:Nat):Int)=(t:Int)+1 by omega] at NX
          clear hf hb hp h1 h2 h5 hl u hg K1 ed hx hxm hx64 hm
          go_wp2_with fail
          refine K.out.mono ?_;rintro e w1 ⟨rfl,hq⟩
          have N1:=Lib.hid (NX.out _ _ hq)
          clear hq c0
          go_wp2
          go_roundw
          case rel=>exact N1.out
          case measure=>simp [intOf];omega
      · obtain rfl:t=n:=by omega
        have t2:decide ((t:Int)<(t:Int))=false:=decide_eq_false (by omega)
        have Q:=Lib.hid (LoR.qu hb hp h1 h2 HO.out H4.out h5 u)
        have e9:l.drop t= []:=List.drop_eq_nil_of_le (by rw [HL.out];exact Nat.le_refl _)
        have HF:=Lib.hid hf;have E9:=Lib.hid e9
        clear hf hb hp h1 h2 h5 hl u e9
        go_wp2
        go_ret
        rw [HF.out,E9.out]
        exact ⟨rfl,Q.out⟩
end Go.Proofs.YtippfeplogkaiaaGreatDoor
namespace Go.Proofs.YtippfeplogkaiaaGreatDoor
open Go.RowKit Go.Maps QueueMath
set_option linter.unusedVariables false
set_option maxRecDepth 100000
theorem loadRow {w:World} {g:Nat} {t:TypeId} {p q:Option Addr} (h:Blk w g t #[.pointer p, .pointer q]):(loadVar 274 ⟨g,0,none⟩).run Tryz.prog w= .ok (.agg #[.pointer p, .pointer q]) w:=by
  have hi:(Tryz.prog.info? 274).map (fun j=>j.size)=some 2:=by kernel_rfl
  exact run_loadVar_row w g t 274 _ (0,0) _ h Tryz.underlying274 rfl hi
theorem results_cell2 {fn:Func} {a b:Tmp} {t:TypeId} (h:fn.results= #[.cell a t, .cell b t]) (tmps:Array Value) {P:Program} {w:World} {pa pb:Addr} {va vb:Value} (ea:tmps.getD a undef= .pointer (some pa)) (eb:tmps.getD b undef= .pointer (some pb)) (ha:(loadVar t pa).run P w= .ok va w) (hb:(loadVar t pb).run P w= .ok vb w):
    (results fn tmps).run P w= .ok (.tuple #[va,vb]) w:=by
  rw [Array.getD_eq_getD_getElem?] at ea eb
  simp [results,h,ea,eb,asAddr,ha,hb]
abbrev rowV (l:List Sp):Value:= .agg #[.pointer (fstP l none), .pointer (lstP l none)]
set_option maxHeartbeats 1000000 in
theorem both_nil (w:World):Calls Tryz.prog 169 #[.pointer none] w fun e w'=>e= .returned (.tuple #[rowV [],rowV []])∧Below w.heap.size w w':=by
  go_enter Tryz.func169,Tryz.ntmps169
  go_wp2
  have b1:=(Blk.new w 274 #[.pointer none, .pointer none]).alloc (.cells #[.pointer none, .pointer none] 274)
  have b2:=Blk.new (w.alloc (.cells #[.pointer none, .pointer none] 274)) 274 #[.pointer none, .pointer none]
  rw [World.size_alloc] at b2
  refine bodyPost_ret (results_cell2 rfl _ rfl rfl (loadRow b1) (loadRow b2)) rfl ?_
  exact ⟨rfl,((Below.refl _ w).alloc (Nat.le_refl _) _).alloc (by rw [World.size_alloc];omega) _⟩
set_option maxHeartbeats 1000000 in
theorem both_rows {w:World} {rb mb:Nat} {R F:List Sp} (h:RowsAt w rb mb R F):Calls Tryz.prog 169 #[.pointer (some ⟨rb,0,none⟩)] w fun e w'=>e= .returned (.tuple #[rowV R,rowV F])∧Below w.heap.size w w':=by
  have hlt:=h.blk.lt
  have c0:w.cell? ⟨rb,0,none⟩=some (.pointer (fstP R none)):=h.blk.cell 0
  have c1:w.cell? ⟨rb,1,none⟩=some (.pointer (lstP R none)):=h.blk.cell 1
  have c2:w.cell? ⟨rb,2,none⟩=some (.pointer (fstP F none)):=h.blk.cell 2
  have c3:w.cell? ⟨rb,3,none⟩=some (.pointer (lstP F none)):=h.blk.cell 3
  obtain ⟨p0,h0⟩: ∃y,fstP R none=y:=⟨_,rfl⟩
  obtain ⟨p1,h1⟩: ∃y,lstP R none=y:=⟨_,rfl⟩
  obtain ⟨p2,h2⟩: ∃y,fstP F none=y:=⟨_,rfl⟩
  obtain ⟨p3,h3⟩: ∃y,lstP F none=y:=⟨_,rfl⟩
  rw [h0] at c0;rw [h1] at c1;rw [h2] at c2;rw [h3] at c3
  show Calls _ _ _ _ fun e w'=>e= .returned (.tuple #[.agg #[.pointer (fstP R none), .pointer (lstP R none)], .agg #[.pointer (fstP F none), .pointer (lstP F none)]])∧_
  rw [h0,h1,h2,h3]
  have ne1:w.heap.size≠rb:=by omega
  have ne2:w.heap.size+1≠rb:=by omega
  clear h h0 h1 h2 h3
  go_enter Tryz.func169,Tryz.ntmps169
  go_wp2
  go_region_held3 (fun x=>x.cell? ⟨rb,0,none⟩=some (.pointer p0)∧x.cell? ⟨rb,1,none⟩=some (.pointer p1)∧x.cell? ⟨rb,2,none⟩=some (.pointer p2)∧x.cell? ⟨rb,3,none⟩=some (.pointer p3)) (first|go_keep|exact ⟨c0,c1,c2,c3⟩) (fail)
  go_wp2
  have b1:=((Blk.new w 274 #[.pointer p0, .pointer p1]).alloc (.cells #[.pointer p2, .pointer p3] 274)).drew
  have b2:=(Blk.new (w.alloc (.cells #[.pointer p0, .pointer p1] 274)) 274 #[.pointer p2, .pointer p3]).drew
  rw [World.size_alloc] at b2
  refine bodyPost_ret (results_cell2 rfl _ rfl rfl (loadRow b1) (loadRow b2)) rfl ?_
  exact ⟨rfl,(((Below.refl _ w).alloc (Nat.le_refl _) _).alloc (by rw [World.size_alloc];omega) _).drew⟩
theorem ps_both {w:World} {p:Option Addr} {O:Nat→Prop} {S:QR} (h:PS w p O S): ∃rb R F,S=⟨nums R,nums F⟩∧SegP w ⟨rb,0,none⟩ none R none∧SegP w ⟨rb,2,none⟩ none F none∧
    Calls Tryz.prog 169 #[.pointer p] w fun e w'=>e= .returned (.tuple #[rowV R,rowV F])∧Below w.heap.size w w':=by
  rcases h with ⟨rfl,rfl⟩|⟨rb,rfl,mb,R,F,h,rfl,-⟩
  · exact ⟨0, [], [],rfl,trivial,trivial,both_nil w⟩
  · exact ⟨rb,R,F,rfl,h.sr,h.sf,both_rows h⟩
end Go.Proofs.YtippfeplogkaiaaGreatDoor
namespace Go.Proofs.YtippfeplogkaiaaGreatDoor
open Go.RowKit Go.Maps QueueMath
set_option linter.unusedVariables false
set_option maxRecDepth 100000
set_option maxHeartbeats 1000000 in
theorem qs_ready (w:World) {b:Nat} {O:Nat→Prop} {S:QR} (h:QuS w b O S) (hm:S.all.length≤many):
    Calls Tryz.prog 214 #[.pointer (some ⟨b,0,none⟩)] w fun e w'=> ∃v,e= .returned v∧(Arr w' v S.R∧Vec Elem.ints w' v S.R)∧(∀k,In v k→w.heap.size≤k)∧Below w.heap.size w w':=by
  obtain ⟨p,Or,hb,hp,-,-,-,-,h5⟩:=h
  obtain ⟨rb,R,F,rfl,sR,sF,hc⟩:=ps_both hp
  have c0:w.cell? ⟨b,0,none⟩=some (.pointer p):=hb.cell 0
  have K:=Lib.hid hc
  obtain ⟨p0,e0⟩: ∃y,fstP R none=y:=⟨_,rfl⟩
  obtain ⟨p1,e1⟩: ∃y,lstP R none=y:=⟨_,rfl⟩
  obtain ⟨p2,e2⟩: ∃y,fstP F none=y:=⟨_,rfl⟩
  obtain ⟨p3,e3⟩: ∃y,lstP F none=y:=⟨_,rfl⟩
  have T:Hid (∀w1 w2 g,g=w2.heap.size→Below w.heap.size w w1→Below w1.heap.size w1 w2→w1.heap.size≤w2.heap.size→Calls Tryz.prog 170 #[.slice (some ⟨g,0,none⟩) 1 1] (w2.alloc (.cells #[.pointer p0, .pointer p1] 274)) fun e w'=> ∃v,e= .returned v∧(Arr w' v (nums R)∧Vec Elem.ints w' v (nums R))∧(∀k,In v k→w.heap.size≤k)∧Below w.heap.size w w'):=Lib.hid fun w1 w2 g hg h1 h2 hs=>by
    subst hg
    have bn:=Blk.new w2 274 #[.pointer p0, .pointer p1]
    have b3:Below w.heap.size w (w2.alloc (.cells #[.pointer p0, .pointer p1] 274)):=(below_then h1 h1.size h2).alloc (by have:=h1.size;omega) _
    have hm':(nums R).length≤many:=by simp only [QR.all,List.length_append] at hm⊢;omega
    have hsub: ∀x∈nums R,x∈QR.all ⟨nums R,nums F⟩:=fun x hx=>mem_all.2 (.inl hx)
    have hrd:Rd (w2.alloc (.cells #[.pointer p0, .pointer p1] 274)) w2.heap.size 0 [(⟨rb,0,none⟩,R)]:=fun i r hr=>by
      match i,hr with
      | 0,hr=>
        injection hr with hr;subst hr
        exact ⟨by rw [bn.cell];simp [e0],by rw [bn.cell];simp [e1],sR.grew b3⟩
      |i+1,hr=>simp at hr
    refine (told_any _ hrd rfl (by simp) (Nat.le_trans (by simp [toldL]) hm')).mono fun e w' ⟨v,k1,k2,k3,k4⟩=>⟨v,k1,⟨?_, ?_⟩,fun k hk=> ?_,below_then b3 b3.size k4⟩
    · have:=k2.arr (fun x hx=>h5 x (hsub x (by simpa [toldL] using hx)))
      simpa [toldL] using this
    · simpa [toldL] using k2
    · have:=k3 k hk;have:=b3.size;omega
  unfold rowV at K;rw [e0,e1,e2,e3] at K
  clear hb hp hc sR sF h5 e0 e1 e2 e3 hm
  show Calls _ _ _ _ fun e w'=> ∃v,e= .returned v∧(Arr w' v (nums R)∧Vec Elem.ints w' v (nums R))∧(∀k,In v k→w.heap.size≤k)∧Below w.heap.size w w'
  go_enter Tryz.func214,Tryz.ntmps214
  go_wp2_with fail
  refine K.out.mono ?_;rintro e w1 ⟨rfl,hb⟩
  have B:=Lib.hid hb
  clear hb c0
  go_wp2_with fail
  refine (T.out w1 _ _ ?_ B.out ?_ ?_).mono ?_
  · simp [World.size_alloc]
  · exact ((Below.refl _ w1).alloc (Nat.le_refl _) _).alloc (by rw [World.size_alloc];omega) _
  · simp only [World.size_alloc];omega
  · rintro e w3 ⟨v,rfl,h⟩
    have H:=Lib.hid h
    clear h
    go_wp2
    go_ret
    exact ⟨v,rfl,H.out⟩
set_option maxHeartbeats 1000000 in
theorem qs_all (w:World) {b:Nat} {O:Nat→Prop} {S:QR} (h:QuS w b O S) (hm:S.all.length≤many):
    Calls Tryz.prog 110 #[.pointer (some ⟨b,0,none⟩)] w fun e w'=> ∃v,e= .returned v∧(Arr w' v S.all∧Vec Elem.ints w' v S.all)∧(∀k,In v k→w.heap.size≤k)∧Below w.heap.size w w':=by
  obtain ⟨p,Or,hb,hp,-,-,-,-,h5⟩:=h
  obtain ⟨rb,R,F,rfl,sR,sF,hc⟩:=ps_both hp
  have c0:w.cell? ⟨b,0,none⟩=some (.pointer p):=hb.cell 0
  have K:=Lib.hid hc
  obtain ⟨p0,e0⟩: ∃y,fstP R none=y:=⟨_,rfl⟩
  obtain ⟨p1,e1⟩: ∃y,lstP R none=y:=⟨_,rfl⟩
  obtain ⟨p2,e2⟩: ∃y,fstP F none=y:=⟨_,rfl⟩
  obtain ⟨p3,e3⟩: ∃y,lstP F none=y:=⟨_,rfl⟩
  have T:Hid (∀w1 w2 g,g=w2.heap.size→Below w.heap.size w w1→Below w1.heap.size w1 w2→w1.heap.size≤w2.heap.size→Calls Tryz.prog 170 #[.slice (some ⟨g,0,none⟩) 2 2] (w2.alloc (.cells #[.pointer p0, .pointer p1, .pointer p2, .pointer p3] 274)) fun e w'=> ∃v,e= .returned v∧(Arr w' v (nums R++nums F)∧Vec Elem.ints w' v (nums R++nums F))∧(∀k,In v k→w.heap.size≤k)∧Below w.heap.size w w'):=Lib.hid fun w1 w2 g hg h1 h2 hs=>by
    subst hg
    have bn:=Blk.new w2 274 #[.pointer p0, .pointer p1, .pointer p2, .pointer p3]
    have b3:Below w.heap.size w (w2.alloc (.cells #[.pointer p0, .pointer p1, .pointer p2, .pointer p3] 274)):=(below_then h1 h1.size h2).alloc (by have:=h1.size;omega) _
    have hm':(nums R++nums F).length≤many:=by simp only [QR.all,List.length_append] at hm⊢;omega
    have hsub: ∀x∈nums R++nums F,x∈QR.all ⟨nums R,nums F⟩:=fun x hx=>by simpa [QR.all] using hx
    have hrd:Rd (w2.alloc (.cells #[.pointer p0, .pointer p1, .pointer p2, .pointer p3] 274)) w2.heap.size 0 [(⟨rb,0,none⟩,R),(⟨rb,2,none⟩,F)]:=fun i r hr=>by
      match i,hr with
      | 0,hr=>
        injection hr with hr;subst hr
        exact ⟨by rw [bn.cell];simp [e0],by rw [bn.cell];simp [e1],sR.grew b3⟩
      | 1,hr=>
        injection hr with hr;subst hr
        exact ⟨by rw [bn.cell];simp [e2],by rw [bn.cell];simp [e3],sF.grew b3⟩
      |i+2,hr=>simp at hr
    refine (told_any _ hrd rfl (by simp) (Nat.le_trans (by simp [toldL]) hm')).mono fun e w' ⟨v,k1,k2,k3,k4⟩=>⟨v,k1,⟨?_, ?_⟩,fun k hk=> ?_,below_then b3 b3.size k4⟩
    · have:=k2.arr (fun x hx=>h5 x (hsub x (by simpa [toldL] using hx)))
      simpa [toldL] using this
    · simpa [toldL] using k2
    · have:=k3 k hk;have:=b3.size;omega
  unfold rowV at K;rw [e0,e1,e2,e3] at K
  clear hb hp hc sR sF h5 e0 e1 e2 e3 hm
  show Calls _ _ _ _ fun e w'=> ∃v,e= .returned v∧(Arr w' v (nums R++nums F)∧Vec Elem.ints w' v (nums R++nums F))∧(∀k,In v k→w.heap.size≤k)∧Below w.heap.size w w'
  go_enter Tryz.func110,Tryz.ntmps110
  go_wp2_with fail
  refine K.out.mono ?_;rintro e w1 ⟨rfl,hb⟩
  have B:=Lib.hid hb
  clear hb c0
  go_wp2_with fail
  refine (T.out w1 _ _ ?_ B.out ?_ ?_).mono ?_
  · simp [World.size_alloc]
  · exact ((Below.refl _ w1).alloc (Nat.le_refl _) _).alloc (by rw [World.size_alloc];omega) _
  · simp only [World.size_alloc];omega
  · rintro e w3 ⟨v,rfl,h⟩
    have H:=Lib.hid h
    clear h
    go_wp2
    go_ret
    exact ⟨v,rfl,H.out⟩
end Go.Proofs.YtippfeplogkaiaaGreatDoor
namespace Go.Proofs.YtippfeplogkaiaaGreatDoor
open Go.RowKit Go.Maps QueueMath
set_option linter.unusedVariables false
set_option maxRecDepth 100000
theorem Wrt.step {S T:Nat→Prop} {C:Nat→Nat→Prop} {a b c:World} (h:Wrt S C a b) (u:Upd T b c) (hs: ∀i,T i→S i∨a.heap.size≤i):Wrt S C a c:=by
  refine ⟨h.upd.step u fun i hi=>(hs i hi).imp .inl id,fun x hx t cs hb=> ?_⟩
  obtain ⟨c1,b1,s1,e1⟩:=h.blk x hx t cs hb
  refine ⟨c1,b1.upd u fun ht=> ?_,s1,e1⟩
  rcases hs x ht with y|y
  · exact hx y
  · have:=hb.lt;omega
def QC (w:World) (b o:Nat) (p:Option Addr):Prop:= ∃t cs,Blk w b t cs∧cs[o]? =some (.pointer p)
def QPl (b o:Nat) (x i:Nat):Prop:=x=b∧i=o
section
variable {w w':World} {b o:Nat} {p p':Option Addr} {S:Nat→Prop} {C:Nat→Nat→Prop}
theorem QC.c (h:QC w b o p):w.cell? ⟨b,o,none⟩=some (.pointer p):=by obtain ⟨t,cs,hb,e⟩:=h;rw [hb.cell];exact e
theorem QC.z (h:QC w b o p):w.frozen? ⟨b,o,none⟩=false:=by obtain ⟨t,cs,hb,e⟩:=h;exact hb.frozen o
theorem QC.lt (h:QC w b o p):b<w.heap.size:=by obtain ⟨t,cs,hb,e⟩:=h;exact hb.lt
theorem QC.upd (h:QC w b o p) (u:Upd S w w') (hs: ¬S b):QC w' b o p:=by obtain ⟨t,cs,hb,e⟩:=h;exact ⟨t,cs,hb.upd u hs,e⟩
theorem QC.keep (h:QC w b o p) (u:Wrt S C w w') (hs: ¬S b) (hc: ¬C b o):QC w' b o p:=by
  obtain ⟨t,cs,hb,e⟩:=h
  obtain ⟨cs',hb',_,e'⟩:=u.blk b hs t cs hb
  exact ⟨t,cs',hb',by rw [e' o hc];exact e⟩
theorem QC.put (h:QC w b o p):QC (w.setCell ⟨b,o,none⟩ (.pointer p')) b o p':=by
  obtain ⟨t,cs,hb,e⟩:=h
  obtain ⟨x,_⟩:=Array.getElem?_eq_some_iff.1 e
  exact ⟨t,_,hb.put o _,Array.getElem?_setIfInBounds_self_of_lt x⟩
end
structure QuP (w:World) (b o:Nat) (p:Option Addr) (O:Nat→Prop) (S:QR):Prop where
  c:QC w b o p
  ps:PS w p O S
  nb: ¬O b
  lt: ∀k,O k→k<w.heap.size
  i64: ∀x∈S.all,I64 x
theorem QuP.upd {w w':World} {b o:Nat} {p:Option Addr} {O T:Nat→Prop} {S:QR} (h:QuP w b o p O S) (u:Upd T w w') (hT: ∀k,T k→k≠b∧ ¬O k):QuP w' b o p O S:=
  ⟨h.c.upd u fun x=>(hT b x).1 rfl,h.ps.upd u fun k hk=>(hT k hk).2,h.nb,fun k hk=>Nat.lt_of_lt_of_le (h.lt k hk) u.size,h.i64⟩
theorem QuP.keep {w w':World} {b o:Nat} {p:Option Addr} {O T:Nat→Prop} {C:Nat→Nat→Prop} {S:QR} (h:QuP w b o p O S) (u:Wrt T C w w') (hT: ∀k,T k→k≠b∧ ¬O k) (hC: ∀x i,C x i→x=b∧i≠o):QuP w' b o p O S:=
  ⟨h.c.keep u (fun x=>(hT b x).1 rfl) (fun x=>(hC b o x).2 rfl),h.ps.upd u.upd fun k hk=>by
    rcases hk with hk|⟨i,hk⟩
    · exact (hT k hk).2
    · rw [(hC k i hk).1];exact h.nb,h.nb,fun k hk=>Nat.lt_of_lt_of_le (h.lt k hk) u.upd.size,h.i64⟩
def QpPost (w:World) (b o:Nat) (O:Nat→Prop) (S':QR) (a:Int) (e:Ending) (w':World):Prop:=
  e= .returned (.int .i64 a)∧ ∃p' O',QuP w' b o p' O' S'∧(∀k,O' k→O k∨w.heap.size≤k)∧Wrt O (QPl b o) w w'
def LoP (w:World) (f:QR→List Int→QR×Int) (b o:Nat) (p:Option Addr) (O:Nat→Prop) (S:QR) (l:List Int) (i:Value) (wr:World):Prop:=
  ∃(t:Nat) (S1:QR) (O1:Nat→Prop),t≤l.length∧i= .int .i64 (t:Int)∧f S l=f S1 (l.drop t)∧QuP wr b o p O1 S1∧(∀k,O1 k→O k∨w.heap.size≤k)∧S1.all.length≤S.all.length+t∧Wrt O (QPl b o) w wr
section
variable {w wr w':World} {f:QR→List Int→QR×Int} {b o:Nat} {p:Option Addr} {O O1:Nat→Prop} {S S1 S2:QR} {l:List Int} {t:Nat} {a:Int} {e:Ending}
theorem QuP.after (h:QuP wr b o p O1 S1) (h2: ∀k,O1 k→O k∨w.heap.size≤k) (u:Wrt O (QPl b o) w wr) (hq:PsPost wr p O1 S2 a e w') (h5: ∀x∈S2.all,I64 x):
    ∃O2,QuP w' b o p O2 S2∧(∀k,O2 k→O k∨w.heap.size≤k)∧Wrt O (QPl b o) w w':=by
  obtain ⟨e1,O2,k1,k2,k3,u2⟩:=hq
  have us:=u.upd.size
  refine ⟨O2,⟨h.c.upd u2 h.nb,k1,fun hh=> ?_,fun k hk=> ?_,h5⟩,fun k hk=> ?_,u.step u2 h2⟩
  · rcases k3 b hh with x|x
    · exact h.nb x
    · have:=h.c.lt;omega
  · rcases k3 k hk with x|x
    · have:=h.lt k x;have:=u2.size;omega
    · exact x.2
  · rcases k3 k hk with x|x
    · exact h2 k x
    · exact .inr (by omega)
theorem LoP.next (h:QuP wr b o p O1 S1) (h2: ∀k,O1 k→O k∨w.heap.size≤k) (u:Wrt O (QPl b o) w wr) (hq:PsPost wr p O1 S2 a e w') (ht:t+1≤l.length) (hf:f S l=f S2 (l.drop (t+1))) (h5: ∀x∈S2.all,I64 x) (hl:S2.all.length≤S.all.length+(t+1)):
    LoP w f b o p O S l (.int .i64 ((t+1:Nat):Int)) w':=by
  obtain ⟨O2,k1,k2,k3⟩:=h.after h2 u hq h5
  exact ⟨t+1,S2,O2,ht,rfl,hf,k1,k2,hl,k3⟩
theorem QuP.stop (h:QuP wr b o p O1 S1) (h2: ∀k,O1 k→O k∨w.heap.size≤k) (u:Wrt O (QPl b o) w wr) (hq:PsPost wr p O1 S2 a e w') (h5: ∀x∈S2.all,I64 x):
    ∃p' O',QuP w' b o p' O' S2∧(∀k,O' k→O k∨w.heap.size≤k)∧Wrt O (QPl b o) w w':=by
  obtain ⟨O2,k1,k2,k3⟩:=h.after h2 u hq h5
  exact ⟨p,O2,k1,k2,k3⟩
end
set_option maxHeartbeats 1000000 in
theorem qp_fill (w:World) {b o:Nat} {p:Option Addr} {O:Nat→Prop} {S:QR} {x:Int} (h:QuP w b o p O S) (hx:I64 x):
    Calls Tryz.prog 218 #[.pointer (some ⟨b,o,none⟩), .int .i64 x] w fun e w'=>QpPost w b o O (fillE S x).1 (fillE S x).2 e w':=by
  have c0:w.cell? ⟨b,o,none⟩=some (.pointer p):=h.c.c
  obtain ⟨S',hS'⟩: ∃y,(fillE S x).1=y:=⟨_,rfl⟩
  obtain ⟨a,ha⟩: ∃y,(fillE S x).2=y:=⟨_,rfl⟩
  have K:=Lib.hid ((ps_fill h.ps hx).mono fun e w' hq=>show QpPost w b o O (fillE S x).1 (fillE S x).2 e w' from ⟨hq.1,h.stop (fun k=> .inl) (Wrt.refl _ _ _) hq (mem_out_sub h.i64 hx).2.2.1⟩)
  unfold QpPost at K⊢
  rw [hS',ha] at K
  rw [hS',ha]
  clear h hS' ha
  go_enter Tryz.func218,Tryz.ntmps218
  go_wp2_with fail
  refine K.out.mono ?_;rintro e w1 ⟨rfl,hq⟩
  have Q:=Lib.hid hq
  clear hq c0
  go_wp2
  go_ret
  exact ⟨rfl,Q.out⟩
set_option maxHeartbeats 1000000 in
theorem qp_wake (w:World) {b o:Nat} {p:Option Addr} {O:Nat→Prop} {S:QR} {x:Int} (h:QuP w b o p O S) (hx:I64 x):
    Calls Tryz.prog 258 #[.pointer (some ⟨b,o,none⟩), .int .i64 x] w fun e w'=>QpPost w b o O (wakeE S x).1 (wakeE S x).2 e w':=by
  have c0:w.cell? ⟨b,o,none⟩=some (.pointer p):=h.c.c
  obtain ⟨S',hS'⟩: ∃y,(wakeE S x).1=y:=⟨_,rfl⟩
  obtain ⟨a,ha⟩: ∃y,(wakeE S x).2=y:=⟨_,rfl⟩
  have K:=Lib.hid ((ps_wake h.ps hx).mono fun e w' hq=>show QpPost w b o O (wakeE S x).1 (wakeE S x).2 e w' from ⟨hq.1,h.stop (fun k=> .inl) (Wrt.refl _ _ _) hq (mem_out_sub h.i64 hx).2.2.2⟩)
  unfold QpPost at K⊢
  rw [hS',ha] at K
  rw [hS',ha]
  clear h hS' ha
  go_enter Tryz.func258,Tryz.ntmps258
  go_wp2_with fail
  refine K.out.mono ?_;rintro e w1 ⟨rfl,hq⟩
  have Q:=Lib.hid hq
  clear hq c0
  go_wp2
  go_ret
  exact ⟨rfl,Q.out⟩
set_option maxHeartbeats 4000000 in
theorem qp_remove (w:World) {b o:Nat} {p:Option Addr} {O:Nat→Prop} {S:QR} {v:Value} {l:List Int} (h:QuP w b o p O S) (hv:Arr w v l) (hn:Apt v l fun k=>O k∨k=b):
    Calls Tryz.prog 216 #[.pointer (some ⟨b,o,none⟩),v] w fun e w'=>QpPost w b o O (removeE S l).1 (removeE S l).2 e w':=by
  unfold QpPost
  obtain ⟨a,c,rfl,hc1,hc2⟩:=hv.out
  obtain ⟨n,hnl⟩: ∃n,l.length=n:=⟨_,rfl⟩
  have hn:Apt (.slice a l.length c) l fun k=>O k∨ ∃i,QPl b o k i:=hn.imp id fun h k hk hx=>h k hk (hx.imp id fun ⟨i,e,_⟩=>e)
  rw [hnl] at hv hn hc1⊢
  have VA:=Lib.hid hv;have VN:=Lib.hid hn;have HL:=Lib.hid hnl
  have I0:Hid (LoP w removeE b o p O S l (.int .i64 0) w):=Lib.hid ⟨0,S,O,Nat.zero_le _,rfl,rfl,h,fun k=> .inl,Nat.le_refl _,Wrt.refl _ _ _⟩
  clear h hv hn hnl
  go_enter Tryz.func216,Tryz.ntmps216
  go_wp2
  go_loopw [12] (fun i wr=>LoP w removeE b o p O S l i wr) (fun i _=>n-(intOf i).toNat)
  case atStart=>exact I0.out
  case round=>
    clear I0
    obtain ⟨t,S1,O1,ht,rfl,hf,hQ,h2,hl,u⟩:=hrel
    rw [HL.out] at ht
    by_cases htn:t<n
    · obtain ⟨b3,off3,x,ea,hx,hxm,hx64,d0⟩:=(VA.out.updA u.upd VN.out).at (t:=t) (by rw [HL.out];exact htn)
      subst ea
      have c0:wr.cell? ⟨b,o,none⟩=some (.pointer p):=hQ.c.c
      skip
      have K1:=ps_remove hQ.ps hx64
      have ed:l.drop t=x::l.drop (t+1):=List.drop_eq_getElem?_toList_append.trans (by rw [hx];rfl)
      have hg:=mem_out_sub hQ.i64 hx64
      have t2:decide ((t:Int)<(n:Int))=true:=decide_eq_true (by omega)
      have t2':decide (t<n)=true:=decide_eq_true htn
      have q3:(0:Int)≤(t:Int):=by omega
      have q4:(t:Int)<(n:Int):=by omega
      by_cases hm:x∈S1.all
      · rw [remove_there hm] at K1
        have NX:Hid (∀e w',PsPost wr p O1 ⟨QueueMath.out S1.R x,QueueMath.out S1.F x⟩ 0 e w'→LoP w removeE b o p O S l (.int .i64 ((t+1:Nat):Int)) w'):=Lib.hid fun e w' hq=>LoP.next hQ h2 u hq (by rw [HL.out];omega) (by rw [hf,ed];exact if_pos hm) (by have:=hg.2.1;rw [remove_there hm] at this;exact this) (by have y1:=out_len S1.R x;have y2:=out_len S1.F x;simp only [QR.all,List.length_append] at hl⊢;omega)
        have K:=Lib.hid (K1.mono fun e w' hq=>hq.un)
        rw [show ((t+1:Nat):Int)=(t:Int)+1 by omega] at NX
        clear hf hQ h2 hl u hg K1 ed hx hxm hx64 hm
        go_wp2_with fail
        refine K.out.mono ?_;rintro e w1 ⟨rfl,hq⟩
        have N1:=Lib.hid (NX.out _ _ hq)
        clear hq c0
        go_wp2
        go_roundw
        case rel=>exact N1.out
        case measure=>simp [intOf];omega
      · rw [remove_none hm] at K1
        have K:=Lib.hid (K1.mono fun e w' hq=>hq.un)
        have FIN:Hid (removeE S l=(S1,5)∧ ∀e w',PsPost wr p O1 S1 5 e w'→ ∃p' O',QuP w' b o p' O' S1∧(∀k,O' k→O k∨w.heap.size≤k)∧Wrt O (QPl b o) w w'):=Lib.hid ⟨by rw [hf,ed];exact if_neg hm,fun e w' hq=>by
          exact hQ.stop h2 u hq hQ.i64⟩
        clear hf hQ h2 hl u hg K1 ed hx hxm hx64 hm
        go_wp2_with fail
        refine K.out.mono ?_;rintro e w1 ⟨rfl,hq⟩
        have N1:=Lib.hid (FIN.out.2 _ _ hq)
        have EQ:=Lib.hid FIN.out.1
        clear hq c0
        go_wp2
        go_ret
        rw [EQ.out]
        exact ⟨rfl,N1.out⟩
    · obtain rfl:t=n:=by omega
      have t2:decide ((t:Int)<(t:Int))=false:=decide_eq_false (by omega)
      have Q:=Lib.hid (show ∃p' O',QuP wr b o p' O' S1∧(∀k,O' k→O k∨w.heap.size≤k)∧Wrt O (QPl b o) w wr from ⟨_,_,hQ,h2,u⟩)
      have e9:l.drop t= []:=List.drop_eq_nil_of_le (by rw [HL.out];exact Nat.le_refl _)
      have HF:=Lib.hid hf;have E9:=Lib.hid e9
      clear hf hQ h2 hl u e9
      go_wp2
      go_ret
      rw [HF.out,E9.out]
      exact ⟨rfl,Q.out⟩
set_option maxHeartbeats 4000000 in
theorem qp_push (w:World) {b o:Nat} {p:Option Addr} {O:Nat→Prop} {S:QR} {v:Value} {l:List Int} (h:QuP w b o p O S) (hv:Arr w v l) (hn:Apt v l fun k=>O k∨k=b) (hmany:S.all.length+l.length≤many):
    Calls Tryz.prog 255 #[.pointer (some ⟨b,o,none⟩),v] w fun e w'=>QpPost w b o O (pushE S l).1 (pushE S l).2 e w':=by
  unfold QpPost
  obtain ⟨a,c,rfl,hc1,hc2⟩:=hv.out
  obtain ⟨n,hnl⟩: ∃n,l.length=n:=⟨_,rfl⟩
  have hn:Apt (.slice a l.length c) l fun k=>O k∨ ∃i,QPl b o k i:=hn.imp id fun h k hk hx=>h k hk (hx.imp id fun ⟨i,e,_⟩=>e)
  rw [hnl] at hv hn hc1 hmany⊢
  have VA:=Lib.hid hv;have VN:=Lib.hid hn;have HL:=Lib.hid hnl
  have HMA:=Lib.hid hmany
  have c0:w.cell? ⟨b,o,none⟩=some (.pointer p):=h.c.c
  rcases id h.ps with ⟨rfl,rfl⟩|⟨rb,rfl,hN⟩
  · have z0 :w.frozen? ⟨b,o,none⟩=false:=h.c.z
    have hmm:= @run_makeMap Tryz.prog
    have hsz:=h.c.lt
    have ne1:w.heap.size≠b:=by omega
    have ne2:w.heap.size+1≠b:=by omega
    obtain ⟨m,hm⟩: ∃y,w.heap.size=y:=⟨_,rfl⟩
    obtain ⟨rb,hrb⟩: ∃y,m+1=y:=⟨_,rfl⟩
    obtain ⟨W2,hW2⟩: ∃y,(w.alloc (.map #[] 0)).alloc (.cells #[.pointer none, .pointer none, .pointer none, .pointer none, .map (some m)] 309)=y:=⟨_,rfl⟩
    have sz2:W2.heap.size=m+2:=by rw [←hW2];simp [hm]
    have u2:Upd (fun _=>False) w W2:=by rw [←hW2];exact ((Upd.refl _ w).alloc _).alloc _
    have bq:QC (W2.setCell ⟨b,o,none⟩ (.pointer (some ⟨rb,0,none⟩))) b o (some ⟨rb,0,none⟩):=(h.c.upd u2 id).put
    have br:Blk W2 rb 309 #[.pointer none, .pointer none, .pointer none, .pointer none, .map (some m)]:=by rw [←hW2,←hrb,←hm];have:=Blk.new (w.alloc (.map #[] 0)) 309 #[.pointer none, .pointer none, .pointer none, .pointer none, .map (some w.heap.size)];rw [World.size_alloc] at this;exact this
    have hM:W2.ownsMap Tryz.prog 3 spElem m 0 (.map []):=by rw [←hW2,←hm];exact (World.ownsMap_made w _ _ _).alloc _
    have c2:W2.cell? ⟨b,o,none⟩=some (.pointer none):=(h.c.upd u2 id).c
    have z2:W2.frozen? ⟨b,o,none⟩=false:=(h.c.upd u2 id).z
    have us:=(Upd.refl (fun k=>k=b) W2).setCell (p:=⟨b,o,none⟩) (.inl rfl) (.pointer (some ⟨rb,0,none⟩))
    have I0:Hid (LoP w pushE b o (some ⟨rb,0,none⟩) O q0 l (.int .i64 0) (W2.setCell ⟨b,o,none⟩ (.pointer (some ⟨rb,0,none⟩)))):=Lib.hid ⟨0,q0,fun k=>k=m∨k=rb,Nat.zero_le _,rfl,rfl,⟨bq,
      .inr ⟨rb,rfl,m, [], [],⟨br.upd us (fun e=>by omega),trivial,trivial,⟨.map [],ownsMap_upd hM us (fun e=>by omega),atMap_nil⟩,List.nodup_nil,List.nodup_nil,(fun e he=>by cases he),(by omega),(fun e he=>by cases he)⟩,rfl, .inr rfl, .inl rfl,(fun e he=>by cases he)⟩,
      (fun hh=>by rcases hh with e|e<;>omega),(fun k hk=>(by rw [World.size_setCell,sz2];rcases hk with e|e<;>omega)),(fun x hx=>by cases hx)⟩,(fun k hk=> .inr (by rcases hk with e|e<;>omega)),Nat.le_refl _,(Wrt.ofUpd (u2.mono fun _ x=>x.elim)).setCell (C:=QPl b o) ⟨rfl,rfl⟩ _⟩
    clear h hv hn hnl hmany br hM us bq u2
    go_enter Tryz.func255,Tryz.ntmps255
    go_wp2
    go_loopw [23] (fun i wr=>LoP w pushE b o (some ⟨rb,0,none⟩) O q0 l i wr) (fun i _=>n-(intOf i).toNat)
    case atStart=>exact I0.out
    case round=>
      clear I0
      obtain ⟨t,S1,O1,ht,rfl,hf,hQ,h2,hl,u⟩:=hrel
      rw [HL.out] at ht
      by_cases htn:t<n
      · obtain ⟨b3,off3,x,ea,hx,hxm,hx64,d0⟩:=(VA.out.updA u.upd VN.out).at (t:=t) (by rw [HL.out];exact htn)
        subst ea
        have c0:wr.cell? ⟨b,o,none⟩=some (.pointer (some ⟨rb,0,none⟩)):=hQ.c.c
        have hmm1:S1.all.length≤many:=by have:=HMA.out;omega
        have K1:=ps_push hQ.ps hx64 hmm1
        have ed:l.drop t=x::l.drop (t+1):=List.drop_eq_getElem?_toList_append.trans (by rw [hx];rfl)
        have hg:=mem_out_sub hQ.i64 hx64
        have t2:decide ((t:Int)<(n:Int))=true:=decide_eq_true (by omega)
        have t2':decide (t<n)=true:=decide_eq_true htn
        have q3:(0:Int)≤(t:Int):=by omega
        have q4:(t:Int)<(n:Int):=by omega
        by_cases hm:x∈S1.all
        · rw [push_there hm] at K1
          have K:=Lib.hid (K1.mono fun e w' hq=>hq.un)
          have FIN:Hid (pushE q0 l=(S1,6)∧ ∀e w',PsPost wr (some ⟨rb,0,none⟩) O1 S1 6 e w'→ ∃p' O',QuP w' b o p' O' S1∧(∀k,O' k→O k∨w.heap.size≤k)∧Wrt O (QPl b o) w w'):=Lib.hid ⟨by rw [hf,ed];exact if_pos hm,fun e w' hq=>by
            exact hQ.stop h2 u hq hQ.i64⟩
          clear hf hQ h2 hl u hg K1 ed hx hxm hx64 hm
          go_wp2_with fail
          refine K.out.mono ?_;rintro e w1 ⟨rfl,hq⟩
          have N1:=Lib.hid (FIN.out.2 _ _ hq)
          have EQ:=Lib.hid FIN.out.1
          clear hq c0
          go_wp2
          go_ret
          rw [EQ.out]
          exact ⟨rfl,N1.out⟩
        · rw [push_new hm] at K1
          have NX:Hid (∀e w',PsPost wr (some ⟨rb,0,none⟩) O1 ⟨S1.R++ [x],S1.F⟩ 0 e w'→LoP w pushE b o (some ⟨rb,0,none⟩) O q0 l (.int .i64 ((t+1:Nat):Int)) w'):=Lib.hid fun e w' hq=>LoP.next hQ h2 u hq (by rw [HL.out];omega) (by rw [hf,ed];exact if_neg hm) (by have:=hg.1;rw [push_new hm] at this;exact this) (by simp only [QR.all,List.length_append,List.length_cons,List.length_nil] at hl⊢;omega)
          have K:=Lib.hid (K1.mono fun e w' hq=>hq.un)
          rw [show ((t+1:Nat):Int)=(t:Int)+1 by omega] at NX
          clear hf hQ h2 hl u hg K1 ed hx hxm hx64 hm
          go_wp2_with fail
          refine K.out.mono ?_;rintro e w1 ⟨rfl,hq⟩
          have N1:=Lib.hid (NX.out _ _ hq)
          clear hq c0
          go_wp2
          go_roundw
          case rel=>exact N1.out
          case measure=>simp [intOf];omega
      · obtain rfl:t=n:=by omega
        have t2:decide ((t:Int)<(t:Int))=false:=decide_eq_false (by omega)
        have Q:=Lib.hid (show ∃p' O',QuP wr b o p' O' S1∧(∀k,O' k→O k∨w.heap.size≤k)∧Wrt O (QPl b o) w wr from ⟨_,_,hQ,h2,u⟩)
        have e9:l.drop t= []:=List.drop_eq_nil_of_le (by rw [HL.out];exact Nat.le_refl _)
        have HF:=Lib.hid hf;have E9:=Lib.hid e9
        clear hf hQ h2 hl u e9
        go_wp2
        go_ret
        rw [HF.out,E9.out]
        exact ⟨rfl,Q.out⟩
  · have I0 :Hid (LoP w pushE b o (some ⟨rb,0,none⟩) O S l (.int .i64 0) w):=Lib.hid ⟨0,S,O,Nat.zero_le _,rfl,rfl,h,fun k=> .inl,Nat.le_refl _,Wrt.refl _ _ _⟩
    clear h hv hn hnl hmany hN
    go_enter Tryz.func255,Tryz.ntmps255
    go_wp2
    go_loopw [23] (fun i wr=>LoP w pushE b o (some ⟨rb,0,none⟩) O S l i wr) (fun i _=>n-(intOf i).toNat)
    case atStart=>exact I0.out
    case round=>
      clear I0
      obtain ⟨t,S1,O1,ht,rfl,hf,hQ,h2,hl,u⟩:=hrel
      rw [HL.out] at ht
      by_cases htn:t<n
      · obtain ⟨b3,off3,x,ea,hx,hxm,hx64,d0⟩:=(VA.out.updA u.upd VN.out).at (t:=t) (by rw [HL.out];exact htn)
        subst ea
        have c0:wr.cell? ⟨b,o,none⟩=some (.pointer (some ⟨rb,0,none⟩)):=hQ.c.c
        have hmm1:S1.all.length≤many:=by have:=HMA.out;omega
        have K1:=ps_push hQ.ps hx64 hmm1
        have ed:l.drop t=x::l.drop (t+1):=List.drop_eq_getElem?_toList_append.trans (by rw [hx];rfl)
        have hg:=mem_out_sub hQ.i64 hx64
        have t2:decide ((t:Int)<(n:Int))=true:=decide_eq_true (by omega)
        have t2':decide (t<n)=true:=decide_eq_true htn
        have q3:(0:Int)≤(t:Int):=by omega
        have q4:(t:Int)<(n:Int):=by omega
        by_cases hm:x∈S1.all
        · rw [push_there hm] at K1
          have K:=Lib.hid (K1.mono fun e w' hq=>hq.un)
          have FIN:Hid (pushE S l=(S1,6)∧ ∀e w',PsPost wr (some ⟨rb,0,none⟩) O1 S1 6 e w'→ ∃p' O',QuP w' b o p' O' S1∧(∀k,O' k→O k∨w.heap.size≤k)∧Wrt O (QPl b o) w w'):=Lib.hid ⟨by rw [hf,ed];exact if_pos hm,fun e w' hq=>by
            exact hQ.stop h2 u hq hQ.i64⟩
          clear hf hQ h2 hl u hg K1 ed hx hxm hx64 hm
          go_wp2_with fail
          refine K.out.mono ?_;rintro e w1 ⟨rfl,hq⟩
          have N1:=Lib.hid (FIN.out.2 _ _ hq)
          have EQ:=Lib.hid FIN.out.1
          clear hq c0
          go_wp2
          go_ret
          rw [EQ.out]
          exact ⟨rfl,N1.out⟩
        · rw [push_new hm] at K1
          have NX:Hid (∀e w',PsPost wr (some ⟨rb,0,none⟩) O1 ⟨S1.R++ [x],S1.F⟩ 0 e w'→LoP w pushE b o (some ⟨rb,0,none⟩) O S l (.int .i64 ((t+1:Nat):Int)) w'):=Lib.hid fun e w' hq=>LoP.next hQ h2 u hq (by rw [HL.out];omega) (by rw [hf,ed];exact if_neg hm) (by have:=hg.1;rw [push_new hm] at this;exact this) (by simp only [QR.all,List.length_append,List.length_cons,List.length_nil] at hl⊢;omega)
          have K:=Lib.hid (K1.mono fun e w' hq=>hq.un)
          rw [show ((t+1:Nat):Int)=(t:Int)+1 by omega] at NX
          clear hf hQ h2 hl u hg K1 ed hx hxm hx64 hm
          go_wp2_with fail
          refine K.out.mono ?_;rintro e w1 ⟨rfl,hq⟩
          have N1:=Lib.hid (NX.out _ _ hq)
          clear hq c0
          go_wp2
          go_roundw
          case rel=>exact N1.out
          case measure=>simp [intOf];omega
      · obtain rfl:t=n:=by omega
        have t2:decide ((t:Int)<(t:Int))=false:=decide_eq_false (by omega)
        have Q:=Lib.hid (show ∃p' O',QuP wr b o p' O' S1∧(∀k,O' k→O k∨w.heap.size≤k)∧Wrt O (QPl b o) w wr from ⟨_,_,hQ,h2,u⟩)
        have e9:l.drop t= []:=List.drop_eq_nil_of_le (by rw [HL.out];exact Nat.le_refl _)
        have HF:=Lib.hid hf;have E9:=Lib.hid e9
        clear hf hQ h2 hl u e9
        go_wp2
        go_ret
        rw [HF.out,E9.out]
        exact ⟨rfl,Q.out⟩
set_option maxHeartbeats 1000000 in
theorem qp_ready (w:World) {b o:Nat} {p:Option Addr} {O:Nat→Prop} {S:QR} (h:QuP w b o p O S) (hm:S.all.length≤many):
    Calls Tryz.prog 214 #[.pointer (some ⟨b,o,none⟩)] w fun e w'=> ∃v,e= .returned v∧(Arr w' v S.R∧Vec Elem.ints w' v S.R)∧(∀k,In v k→w.heap.size≤k)∧Below w.heap.size w w':=by
  have hb:=h.c;have hp:=h.ps;have h5:=h.i64;clear h
  obtain ⟨rb,R,F,rfl,sR,sF,hc⟩:=ps_both hp
  have c0:w.cell? ⟨b,o,none⟩=some (.pointer p):=hb.c
  have K:=Lib.hid hc
  obtain ⟨p0,e0⟩: ∃y,fstP R none=y:=⟨_,rfl⟩
  obtain ⟨p1,e1⟩: ∃y,lstP R none=y:=⟨_,rfl⟩
  obtain ⟨p2,e2⟩: ∃y,fstP F none=y:=⟨_,rfl⟩
  obtain ⟨p3,e3⟩: ∃y,lstP F none=y:=⟨_,rfl⟩
  have T:Hid (∀w1 w2 g,g=w2.heap.size→Below w.heap.size w w1→Below w1.heap.size w1 w2→w1.heap.size≤w2.heap.size→Calls Tryz.prog 170 #[.slice (some ⟨g,0,none⟩) 1 1] (w2.alloc (.cells #[.pointer p0, .pointer p1] 274)) fun e w'=> ∃v,e= .returned v∧(Arr w' v (nums R)∧Vec Elem.ints w' v (nums R))∧(∀k,In v k→w.heap.size≤k)∧Below w.heap.size w w'):=Lib.hid fun w1 w2 g hg h1 h2 hs=>by
    subst hg
    have bn:=Blk.new w2 274 #[.pointer p0, .pointer p1]
    have b3:Below w.heap.size w (w2.alloc (.cells #[.pointer p0, .pointer p1] 274)):=(below_then h1 h1.size h2).alloc (by have:=h1.size;omega) _
    have hm':(nums R).length≤many:=by simp only [QR.all,List.length_append] at hm⊢;omega
    have hsub: ∀x∈nums R,x∈QR.all ⟨nums R,nums F⟩:=fun x hx=>mem_all.2 (.inl hx)
    have hrd:Rd (w2.alloc (.cells #[.pointer p0, .pointer p1] 274)) w2.heap.size 0 [(⟨rb,0,none⟩,R)]:=fun i r hr=>by
      match i,hr with
      | 0,hr=>
        injection hr with hr;subst hr
        exact ⟨by rw [bn.cell];simp [e0],by rw [bn.cell];simp [e1],sR.grew b3⟩
      |i+1,hr=>simp at hr
    refine (told_any _ hrd rfl (by simp) (Nat.le_trans (by simp [toldL]) hm')).mono fun e w' ⟨v,k1,k2,k3,k4⟩=>⟨v,k1,⟨?_, ?_⟩,fun k hk=> ?_,below_then b3 b3.size k4⟩
    · have:=k2.arr (fun x hx=>h5 x (hsub x (by simpa [toldL] using hx)))
      simpa [toldL] using this
    · simpa [toldL] using k2
    · have:=k3 k hk;have:=b3.size;omega
  unfold rowV at K;rw [e0,e1,e2,e3] at K
  clear hb hp hc sR sF h5 e0 e1 e2 e3 hm
  show Calls _ _ _ _ fun e w'=> ∃v,e= .returned v∧(Arr w' v (nums R)∧Vec Elem.ints w' v (nums R))∧(∀k,In v k→w.heap.size≤k)∧Below w.heap.size w w'
  go_enter Tryz.func214,Tryz.ntmps214
  go_wp2_with fail
  refine K.out.mono ?_;rintro e w1 ⟨rfl,hb⟩
  have B:=Lib.hid hb
  clear hb c0
  go_wp2_with fail
  refine (T.out w1 _ _ ?_ B.out ?_ ?_).mono ?_
  · simp [World.size_alloc]
  · exact ((Below.refl _ w1).alloc (Nat.le_refl _) _).alloc (by rw [World.size_alloc];omega) _
  · simp only [World.size_alloc];omega
  · rintro e w3 ⟨v,rfl,h⟩
    have H:=Lib.hid h
    clear h
    go_wp2
    go_ret
    exact ⟨v,rfl,H.out⟩
set_option maxHeartbeats 1000000 in
theorem qp_all (w:World) {b o:Nat} {p:Option Addr} {O:Nat→Prop} {S:QR} (h:QuP w b o p O S) (hm:S.all.length≤many):
    Calls Tryz.prog 110 #[.pointer (some ⟨b,o,none⟩)] w fun e w'=> ∃v,e= .returned v∧(Arr w' v S.all∧Vec Elem.ints w' v S.all)∧(∀k,In v k→w.heap.size≤k)∧Below w.heap.size w w':=by
  have hb:=h.c;have hp:=h.ps;have h5:=h.i64;clear h
  obtain ⟨rb,R,F,rfl,sR,sF,hc⟩:=ps_both hp
  have c0:w.cell? ⟨b,o,none⟩=some (.pointer p):=hb.c
  have K:=Lib.hid hc
  obtain ⟨p0,e0⟩: ∃y,fstP R none=y:=⟨_,rfl⟩
  obtain ⟨p1,e1⟩: ∃y,lstP R none=y:=⟨_,rfl⟩
  obtain ⟨p2,e2⟩: ∃y,fstP F none=y:=⟨_,rfl⟩
  obtain ⟨p3,e3⟩: ∃y,lstP F none=y:=⟨_,rfl⟩
  have T:Hid (∀w1 w2 g,g=w2.heap.size→Below w.heap.size w w1→Below w1.heap.size w1 w2→w1.heap.size≤w2.heap.size→Calls Tryz.prog 170 #[.slice (some ⟨g,0,none⟩) 2 2] (w2.alloc (.cells #[.pointer p0, .pointer p1, .pointer p2, .pointer p3] 274)) fun e w'=> ∃v,e= .returned v∧(Arr w' v (nums R++nums F)∧Vec Elem.ints w' v (nums R++nums F))∧(∀k,In v k→w.heap.size≤k)∧Below w.heap.size w w'):=Lib.hid fun w1 w2 g hg h1 h2 hs=>by
    subst hg
    have bn:=Blk.new w2 274 #[.pointer p0, .pointer p1, .pointer p2, .pointer p3]
    have b3:Below w.heap.size w (w2.alloc (.cells #[.pointer p0, .pointer p1, .pointer p2, .pointer p3] 274)):=(below_then h1 h1.size h2).alloc (by have:=h1.size;omega) _
    have hm':(nums R++nums F).length≤many:=by simp only [QR.all,List.length_append] at hm⊢;omega
    have hsub: ∀x∈nums R++nums F,x∈QR.all ⟨nums R,nums F⟩:=fun x hx=>by simpa [QR.all] using hx
    have hrd:Rd (w2.alloc (.cells #[.pointer p0, .pointer p1, .pointer p2, .pointer p3] 274)) w2.heap.size 0 [(⟨rb,0,none⟩,R),(⟨rb,2,none⟩,F)]:=fun i r hr=>by
      match i,hr with
      | 0,hr=>
        injection hr with hr;subst hr
        exact ⟨by rw [bn.cell];simp [e0],by rw [bn.cell];simp [e1],sR.grew b3⟩
      | 1,hr=>
        injection hr with hr;subst hr
        exact ⟨by rw [bn.cell];simp [e2],by rw [bn.cell];simp [e3],sF.grew b3⟩
      |i+2,hr=>simp at hr
    refine (told_any _ hrd rfl (by simp) (Nat.le_trans (by simp [toldL]) hm')).mono fun e w' ⟨v,k1,k2,k3,k4⟩=>⟨v,k1,⟨?_, ?_⟩,fun k hk=> ?_,below_then b3 b3.size k4⟩
    · have:=k2.arr (fun x hx=>h5 x (hsub x (by simpa [toldL] using hx)))
      simpa [toldL] using this
    · simpa [toldL] using k2
    · have:=k3 k hk;have:=b3.size;omega
  unfold rowV at K;rw [e0,e1,e2,e3] at K
  clear hb hp hc sR sF h5 e0 e1 e2 e3 hm
  show Calls _ _ _ _ fun e w'=> ∃v,e= .returned v∧(Arr w' v (nums R++nums F)∧Vec Elem.ints w' v (nums R++nums F))∧(∀k,In v k→w.heap.size≤k)∧Below w.heap.size w w'
  go_enter Tryz.func110,Tryz.ntmps110
  go_wp2_with fail
  refine K.out.mono ?_;rintro e w1 ⟨rfl,hb⟩
  have B:=Lib.hid hb
  clear hb c0
  go_wp2_with fail
  refine (T.out w1 _ _ ?_ B.out ?_ ?_).mono ?_
  · simp [World.size_alloc]
  · exact ((Below.refl _ w1).alloc (Nat.le_refl _) _).alloc (by rw [World.size_alloc];omega) _
  · simp only [World.size_alloc];omega
  · rintro e w3 ⟨v,rfl,h⟩
    have H:=Lib.hid h
    clear h
    go_wp2
    go_ret
    exact ⟨v,rfl,H.out⟩
end Go.Proofs.YtippfeplogkaiaaGreatDoor
