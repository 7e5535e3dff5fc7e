/- CallsG: texts of layers below, joined (CallV CallW). -/
import Derived.Test.YtippfeplogkaiaaGreatDoorCallsF
import Derived.Test.YtippfeplogkaiaaGreatDoorCallNew
namespace Go.Proofs.YtippfeplogkaiaaGreatDoor
open Go.RowKit ListMath PageMath GeoMath SegMath ClassMath HeapMath QueueMath ArenaMath CallMath
set_option linter.unusedVariables false
set_option maxRecDepth 100000
def ar0 (n l:Nat):St:=(reserve ⟨n,l, [], [],0⟩ 1).2.2
theorem emp_new {n l t:Nat} (ht:t<8):Emp (sy0 (ar0 n l)) t (ar0 n l):=
  ⟨⟨ht,fun u _ _=>rfl,rfl⟩,rfl,rfl,rfl,StackMath.GoodS.zero,by show (0:Nat)≤1000;omega,fun i=>rfl⟩
theorem for16:forN 16 (max 0 1)=(⟨0,1,0,16⟩,0):=by kernel_rfl
theorem res4:(reserve (ar0 4 4) 1).2.1=0∧(reserve (ar0 4 4) 1).1.toNat=1:=by constructor<;>kernel_rfl
theorem ar0_r (n l:Nat):(ar0 n l).r≤1:=(reserve_same _ _).2.2
section
variable {w0 w w' w1 w2:World} {C:SgC w0} {K:HpC w0 C} {s p q g f m k cap:Nat} {hb:Nat→Nat} {S:Nat→Prop} {P:SY} {L:List Nat} {F:FR}
theorem z_alive (h:ZZ (ar0 4 4) 0 (sy0 (ar0 4 4)) 16 0 P L F) (hL: ∀X∈P.all,GoodS X) (g:GoodH (P.H 0)):F.err=0∧F.addr=17408∧F.took=4∧usE P 17408=(16,0):=by
  rcases h with ⟨h1,_⟩|⟨_,h1,_⟩|⟨_,_,⟨_,h⟩|⟨h1,_⟩⟩
  · rw [for16] at h1;exact absurd rfl h1
  · rw [for16] at h1;exact absurd h1 (by decide)
  · rcases h with h|h
    · have ha:F.addr=17408:=by rw [h.ad,res4.2];rfl
      obtain ⟨X,hX,o,ho,h2,h3⟩:=h.ex
      have hg:=(h.us.wh X hX o ho).1
      have hu:=(usE_of h.o g h.hu hX ho hg h3).1
      rw [ha] at hu
      rw [for16] at h2
      refine ⟨h.er,ha,h.tk, ?_⟩
      rw [hu,h2]
      rfl
    · exact absurd res4.1 h.res
  · rw [for16] at h1;exact absurd h1 (by decide)
end
theorem bg_1 (P:SY) (t ad n al:Nat) (z fo:Bool):bgF P (fr0 t 1 ad n al z fo)=begF (fr0 t 1 ad n al z fo)∧bgS P (fr0 t 1 ad n al z fo)=begS (fr0 t 1 ad n al z fo):=⟨if_pos rfl,if_pos rfl⟩
theorem st_16:begS (fr0 0 1 0 16 0 false false)=b_local:=by kernel_rfl
set_option maxHeartbeats 4000000 in
theorem alive_any (w:World) (LY:Lay w):Calls Tryz.prog 10 #[] w fun e w'=>e= .returned (.bool true)∧Below w.heap.size w w':=by
  have NW:=Lib.hid (sysNew (C:=sgc w LY) (K:=hpc w LY (sgc w LY)) (Below.refl _ w) (n:=4) (l:=4) (by omega) (by omega) (by omega) (by omega) (S:=fun _=>False) (fun k h=>h.elim) (fun k h=>h.elim))
  go_enter Tryz.func10,Tryz.ntmps10
  go_wp2_with fail
  refine NW.out.mono ?_;rintro e w1 ⟨s,p,q,hb,L,rfl,z,hl,hb1⟩
  have BG:=Lib.hid (begin_1 z LY (t:=0) (by decide) (ad:=0) (n:=16) (al:=0) (zz:=false) (fo:=false) (by decide) (by decide))
  have Z:=Lib.hid z
  clear z hb1 hl
  go_wp2_with fail
  refine BG.out.mono ?_;rintro e w2 ⟨f,m,rfl,hf,S2,a,k,cap,n2,i1,i2⟩
  rw [(bg_1 _ 0 0 16 0 false false).1,(bg_1 _ 0 0 16 0 false false).2] at n2
  have SA:=Lib.hid (state_any n2.fr)
  rw [st_16] at SA
  obtain ⟨j,hj,he⟩:=mall_ends (S:=fun _=>False) (A:=ar0 4 4) (t:=0) (w:=w1) (ad:=0) (n:=16) (al:=0) (zz:=false) (fo:=false) n2 n2.un.size i1 (fun b hb=>(i2 b hb)) (emp_new (by decide)) (by show (0:Nat)≤900;omega) (by have:=ar0_r 4 4;omega)
  have FN:=Lib.hid (finish_any (mo:=10) he (by omega) (by omega))
  clear n2 he
  go_wp2_with fail
  refine SA.out.mono ?_;rintro e w3 ⟨rfl,rfl⟩
  go_wp2_with fail
  refine FN.out.mono ?_;rintro e w4 ⟨rfl,P,L4,F,hl4,hz,S4,a4,k4,cap4,n4,_,_⟩
  obtain ⟨v1,v2,v3,v4⟩:=z_alive hz (fun X hX=>(n4.os.pgs.1 X hX).1) (n4.os.goodH (by decide))
  have RS:=result_done n4.fr
  rw [v1,v2,v3] at RS
  have RS:=Lib.hid RS
  have US:=fun w5 (h:Below w4.heap.size w4 w5)=>sy_usable (n4.grew h).os (x:=17408) (by decide)
  rw [v4] at US
  have US:=Lib.hid US
  have B4:=Lib.hid n4.os.below
  have BN:=Lib.hid (fun w=>begin_nil w (t:=0) (c0:= .int .i64 0) (c1:= .int .u64 0) (c2:= .int .u64 0) (c3:= .int .u64 0) (c4:= .bool false) (c5:= .bool false))
  clear n4 hz v1 v2 v3 v4 hl4
  go_wp2_with fail
  refine RS.out.mono ?_;rintro e w5 ⟨rfl,hb5⟩
  have B5:=Lib.hid hb5
  have B6:=Lib.hid (hb5.alloc hb5.size (.cells #[.int .u64 (17408:Nat), .int .i64 0, .int .i64 (4:Nat)] 70))
  clear hb5
  unfold resV
  go_wp2_with fail
  refine (US.out _ B6.out).mono ?_;rintro e w6 ⟨rfl,hb6⟩
  have B7:=Lib.hid (below_then B6.out B6.out.size hb6)
  have nb:=(Blk.new w5 70 #[.int .u64 (17408:Nat), .int .i64 0, .int .i64 (4:Nat)]).grew hb6
  have r0:=nb.cell 0;have r1:=nb.cell 1;have r2:=nb.cell 2
  clear hb6
  go_wp2_with fail
  refine (BN.out _).mono ?_;rintro e w7 ⟨rfl,hb7⟩
  have B8:=Lib.hid (below_then B7.out B7.out.size hb7)
  have nb:=nb.grew hb7
  have r0:=nb.cell 0;have r1:=nb.cell 1;have r2:=nb.cell 2
  clear hb7 nb
  go_wp2
  go_ret
  exact ⟨rfl,below_then B4.out B4.out.size B8.out⟩
end Go.Proofs.YtippfeplogkaiaaGreatDoor
namespace Go.Proofs.YtippfeplogkaiaaGreatDoor
open Go.RowKit ListMath PageMath GeoMath SegMath ClassMath HeapMath QueueMath ArenaMath CallMath
set_option linter.unusedVariables false
set_option maxRecDepth 100000
theorem sy0_all (A:St):(sy0 A).all= []:=by
  unfold SY.all
  rw [List.append_eq_nil_iff]
  exact ⟨List.flatMap_eq_nil_iff.2 fun u _=>rfl,rfl⟩
theorem use_none (A:St) (x:Nat):usE (sy0 A) x=(0,5):=by
  have h1:hugeE (sy0 A).hu x=none:=hugeE_none (fun _=>rfl) x
  have h2:findA (sy0 A) x=none:=by unfold findA;rw [sy0_all];rfl
  unfold usE
  rw [h1,h2]
section
variable {w0 w w' w1 w2:World} {C:SgC w0} {K:HpC w0 C} {s p q g f m k cap:Nat} {hb:Nat→Nat} {S S':Nat→Prop} {P:SY} {L:List Nat} {F:FR} {a:Option Addr} {t:Nat} {A:St}
theorem sy_given (z:OS C K s p q hb P L S w):Calls Tryz.prog 37 #[.pointer (some ⟨q,0,none⟩)] w fun e w'=>e= .returned (.int .i64 (ArenaMath.total P.A.l:Int))∧Below w.heap.size w w':=by
  obtain ⟨⟨g,own,O,B,R,z1,z2⟩,_⟩:=z
  exact given_any z1.env.ar
def OneZ (A:St) (er:Int) (P:SY) (L:List Nat) (F:FR):Prop:=P.A=A∧F.err=er∧F.took=1∧F.addr=0
theorem ends_find0 (n:NowF C K s p q hb S' f m a k cap w (sy0 A) L F b_find w') (h1: ∀b,S b→S' b) (h2: ∀b,S' b→S b∨w.heap.size≤b) (hx:U64B F.ad) (hk:F.kd=2) (ht:F.took=0) (ha:F.addr=0):
    Ends f (Over C K s p q hb S f m w L.length (OneZ A 5)) 1 w':=by
  refine ends_step n nd_find (by omega) (fun w1 h=>at_find h) en_find fun w1 n1 hw1=> ?_
  refine (find_none_now n1 hx (hugeE_none (fun _=>rfl) _) (fun X hX=>by rw [sy0_all] at hX;cases hX)).mono ?_
  rintro er w2 ⟨rfl,n2⟩
  refine ⟨_,rfl,_,_,_,_,_,_,_,n2,fun w3 n3=>ends_over n3 h1 h2 ?_⟩
  have e1:freedF (tookF F) 5={tookF F with err:=5}:=if_pos hk
  rw [e1]
  exact ⟨rfl,rfl,by show F.took+1=1;omega,ha⟩
theorem ends_fit0 (n:NowF C K s p q hb S' f m a k cap w (sy0 A) L F b_fit w') (h1: ∀b,S b→S' b) (h2: ∀b,S' b→S b∨w.heap.size≤b) (hx:U64B F.ad) (ht:F.took=0) (ha:F.addr=0):
    Ends f (Over C K s p q hb S f m w L.length (OneZ A 5)) 1 w':=by
  refine ends_step n nd_fit (by omega) (fun w1 h=>at_fit h) en_fit fun w1 n1 hw1=> ?_
  have hu:usE (sy0 A) (tookF F).ad=(0,5):=use_none A _
  refine (fit_none_now n1 hx (by rw [hu];decide)).mono ?_
  rintro er w2 ⟨rfl,n2⟩
  refine ⟨_,rfl,_,_,_,_,_,_,_,n2,fun w3 n3=>ends_over n3 h1 h2 ⟨rfl,by show (usE (sy0 A) (tookF F).ad).2=5;rw [hu],by show F.took+1=1;omega,ha⟩⟩
theorem ends_rest0 (n:NowF C K s p q hb S' f m a k cap w (sy0 A) L F b_rest w') (h1: ∀b,S b→S' b) (h2: ∀b,S' b→S b∨w.heap.size≤b) (ht:F.took=0) (ha:F.addr=0) (he:F.err=0):
    Ends f (Over C K s p q hb S f m w L.length (OneZ A 0)) 1 w':=by
  refine ends_step n nd_rest (by omega) (fun w1 h=>at_rest h) en_rest fun w1 n1 hw1=> ?_
  refine (rest_any w1).mono ?_
  rintro er w2 ⟨rfl,rfl⟩
  exact ⟨_,rfl,_,_,_,_,_,_,_,n1,fun w3 n3=>ends_over n3 h1 h2 ⟨rfl,he,by show F.took+1=1;omega,ha⟩⟩
theorem ends_look0 (n:NowF C K s p q hb S' f m a k cap w (sy0 A) L F b_look w') (h1: ∀b,S b→S' b) (h2: ∀b,S' b→S b∨w.heap.size≤b) (hk:F.kd=4) (ht:F.took=0) (ha:F.addr=0) (he:F.err=0):
    Ends f (Over C K s p q hb S f m w L.length (OneZ A 0)) 1 w':=by
  refine ends_step n nd_look (by omega) (fun w1 h=>at_look h) en_look fun w1 n1 hw1=> ?_
  refine (look_now n1 StackMath.GoodS.zero (show (0:Nat)≤999999999 by omega)).mono ?_
  rintro er w2 ⟨rfl,n2⟩
  have hs:lookS (sy0 A) (tookF F)=b_done:=by
    unfold lookS
    rw [if_neg (show ¬StackMath.topI (sy0 A).S.L≠ -1 from fun h=>h rfl),if_neg (show ¬((tookF F).kd=1∨(tookF F).kd=3) by show ¬(F.kd=1∨F.kd=3);omega)]
  rw [hs]
  exact ⟨_,rfl,_,_,_,_,_,_,_,n2,fun w3 n3=>ends_over n3 h1 h2 ⟨rfl,he,by show F.took+1=1;omega,ha⟩⟩
def wantE (kd:Int):Int:=if kd=2∨kd=3 then 5 else 0
theorem gat_h0 {F:FR} (hk:F.kd=4∨F.kd=5) (ht:F.t<8):begG (sy0 A) F=if F.kd=4∧F.fo=true then b_look else b_rest:=by
  have hp:gatF (sy0 A) F=pagesF F []:=by
    unfold gatF
    rw [show pagesH ((sy0 A).H F.t) []= [] from pages_h0 []]
  unfold begG
  rw [hp]
  have h1: ¬(pagesF F []).pages≠ []:=fun h=>h rfl
  have h2: ¬((pagesF F []).kd=1∨(pagesF F []).kd=3):=by show ¬(F.kd=1∨F.kd=3);omega
  rcases hk with hk|hk
  · have h3: ¬(pagesF F []).kd=5:=by show ¬F.kd=5;omega
    by_cases hf:F.fo=true
    · have:gathS (sy0 A) (pagesF F [])=b_look:=by unfold gathS;rw [if_neg h1,if_neg h2,if_neg h3,if_pos (show (pagesF F []).fo=true from hf)]
      rw [this];exact (show _=b_look from rfl).trans (if_pos ⟨hk,hf⟩).symm
    · have:gathS (sy0 A) (pagesF F [])=b_done:=by unfold gathS;rw [if_neg h1,if_neg h2,if_neg h3,if_neg (show ¬(pagesF F []).fo=true from hf)]
      rw [this];exact (show _=b_rest from rfl).trans (if_neg fun h=>hf h.2).symm
  · have:gathS (sy0 A) (pagesF F [])=b_done:=by
      unfold gathS
      rw [if_neg h1,if_neg h2,if_pos (show (pagesF F []).kd=5 from hk)]
      exact if_pos rfl
    rw [this];exact (show _=b_rest from rfl).trans (if_neg fun h=>by have:=h.1;omega).symm
theorem begin_new (LY:Lay w0) (z:OS C K s p q hb (sy0 (ar0 8 8)) L S w) (ht:t<8) {kd:Int} (h1:1≤kd) (h2:kd≤5) {ad n al:Nat} {zz fo:Bool} (ha:U64B ad) (hn:U64B n) (hal:U64B al):
    Calls Tryz.prog 35 #[.pointer (some ⟨s,0,none⟩), .int .i64 (t:Int),callV kd ad n al zz fo] w fun e w'=> ∃f m st F S' a k cap,e= .returned (.tuple #[.pointer (some ⟨f,0,none⟩), .int .i64 0])∧(w.heap.size≤f∧ ∀b,S b→S' b)∧NowF C K s p q hb S' f m a k cap w (sy0 (ar0 8 8)) L F st w'∧(st.toList== [100,111,110,101])=false∧
      (kd=1→ ∀w2,NowF C K s p q hb S' f m a k cap w (sy0 (ar0 8 8)) L F st w2→ ∃j,j≤4∧ ∃Z,Ends f (Over C K s p q hb S f m w L.length Z) j w2)∧(kd≠1→ ∀w2,NowF C K s p q hb S' f m a k cap w (sy0 (ar0 8 8)) L F st w2→Ends f (Over C K s p q hb S f m w L.length (OneZ (ar0 8 8) (wantE kd))) 1 w2):=by
  have hh:kd=1∨kd=2∨kd=3∨kd=4∨kd=5:=by omega
  rcases hh with rfl|rfl|rfl|rfl|rfl
  · refine (begin_1 z LY ht hn hal).mono ?_
    rintro e w1 ⟨f,m,rfl,hf,S',a,k,cap,n1,i1,i2⟩
    rw [(bg_1 _ t ad n al zz fo).1,(bg_1 _ t ad n al zz fo).2] at n1
    refine ⟨f,m,_,_,S',a,k,cap,rfl,⟨hf,i1⟩,n1, ?_,fun _ w2 n2=> ?_,fun h=>absurd rfl h⟩
    · unfold begS
      split
      · exact nd_refuse
      · unfold askS
        split
        · exact nd_huge
        · split
          · exact nd_local
          · exact nd_fresh
    · obtain ⟨j,hj,he⟩:=mall_ends (S:=S) (A:=ar0 8 8) (t:=t) (w:=w) n2 n2.un.size i1 i2 (emp_new ht) (show (0:Nat)≤900 by omega) (by have:=ar0_r 8 8;omega)
      exact ⟨j,hj,_,he⟩
  · refine (begin_2 z ht).mono ?_
    rintro e w1 ⟨f,m,rfl,hf,S',a,k,cap,n1,i1,i2⟩
    exact ⟨f,m,_,_,S',a,k,cap,rfl,⟨hf,i1⟩,n1,nd_find,fun h=>absurd h (by decide),fun _ w2 n2=>ends_find0 n2 i1 i2 ha rfl rfl rfl⟩
  · refine (begin_3 z ht).mono ?_
    rintro e w1 ⟨f,m,rfl,hf,S',a,k,cap,n1,i1,i2⟩
    exact ⟨f,m,_,_,S',a,k,cap,rfl,⟨hf,i1⟩,n1,nd_fit,fun h=>absurd h (by decide),fun _ w2 n2=>ends_fit0 n2 i1 i2 ha rfl rfl⟩
  · refine (begin_4 z ht).mono ?_
    rintro e w1 ⟨f,m,rfl,hf,S',a,k,cap,n1,i1,i2⟩
    have hs:bgS (sy0 (ar0 8 8)) (fr0 t 4 ad n al zz fo)=if (4:Int)=4∧fo=true then b_look else b_rest:=gat_h0 (A:=ar0 8 8) (F:=fr0 t 4 ad n al zz fo) (.inl rfl) ht
    rw [hs] at n1
    by_cases hf2:fo=true
    · rw [if_pos ⟨rfl,hf2⟩] at n1
      exact ⟨f,m,_,_,S',a,k,cap,rfl,⟨hf,i1⟩,n1,nd_look,fun h=>absurd h (by decide),fun _ w2 n2=>ends_look0 n2 i1 i2 rfl rfl rfl rfl⟩
    · rw [if_neg fun h=>hf2 h.2] at n1
      exact ⟨f,m,_,_,S',a,k,cap,rfl,⟨hf,i1⟩,n1,nd_rest,fun h=>absurd h (by decide),fun _ w2 n2=>ends_rest0 n2 i1 i2 rfl rfl rfl⟩
  · refine (begin_5 z ht).mono ?_
    rintro e w1 ⟨f,m,rfl,hf,S',a,k,cap,n1,i1,i2⟩
    have hs:bgS (sy0 (ar0 8 8)) (fr0 t 5 ad n al zz fo)=if (5:Int)=4∧fo=true then b_look else b_rest:=gat_h0 (A:=ar0 8 8) (F:=fr0 t 5 ad n al zz fo) (.inr rfl) ht
    rw [hs,if_neg fun h=>absurd h.1 (by decide)] at n1
    exact ⟨f,m,_,_,S',a,k,cap,rfl,⟨hf,i1⟩,n1,nd_rest,fun h=>absurd h (by decide),fun _ w2 n2=>ends_rest0 n2 i1 i2 rfl rfl rfl⟩
end
end Go.Proofs.YtippfeplogkaiaaGreatDoor
