/- HpsB: texts of layers below, joined (HpH HpI HpJ HpK HpL HpM HpN HpO HpP HpQ HpR Hpc). -/
import Derived.Test.YtippfeplogkaiaaGreatDoorHpsA
namespace Go.Proofs.YtippfeplogkaiaaGreatDoor
open Go.RowKit ListMath PageMath GeoMath SegMath ClassMath HeapMath QueueMath ArenaMath
set_option linter.unusedVariables false
set_option maxRecDepth 100000
theorem put_self {X:SG} (hn:(X.L.map fun o=>o.pp).Nodup) {o:OwR} (ho:o∈X.L):X.put o.pp o.P=X:=by
  have e:(X.L.map fun x=>if x.pp=o.pp then {x with P:=o.P} else x)=X.L:=by
    conv=>rhs;rw [←List.map_id X.L]
    refine List.map_congr_left fun x hx=> ?_
    by_cases e:x.pp=o.pp
    · rw [if_pos e,pp_one hn hx ho e];rfl
    · rw [if_neg e];rfl
  unfold SG.put
  rw [e]
theorem freeP_hp1 (S:PG) (a:Nat):freeP S [a]=((free1 S a).1,(free1 S a).2):=by
  show (if (free1 S a).2=0 then ((free1 S a).1,0) else free1 S a)=_
  split
  · rename_i e;rw [e]
  · rfl
abbrev turnP (b:SB) (o:OwR) (S:PG):SB:={b with X:=b.X.put o.pp S}
theorem BP_turn {b:SB} {o:OwR} {S:PG} {x:Nat}:BP (turnP b o S) x↔BP b x:=by
  constructor
  · rintro (hx|⟨u,hu,hx⟩)
    · exact .inl hx
    · obtain ⟨v,hv,rfl⟩:=put_mem.1 hu
      obtain ⟨e1,e2,e3,e4,e5⟩:=put_lo v o.pp S
      rw [e3,e4] at hx
      exact .inr ⟨v,hv,hx⟩
  · rintro (hx|⟨u,hu,hx⟩)
    · exact .inl hx
    · obtain ⟨e1,e2,e3,e4,e5⟩:=put_lo u o.pp S
      exact .inr ⟨_,put_mem.2 ⟨u,hu,rfl⟩,by rw [e3,e4];exact hx⟩
section
variable {w0 ws w w':World} {C:SgC w0} {h id p g q:Nat} {O own own' T:Nat→Prop} {L L' Y:List Nat} {A A':St} {B B' l r R R':List SB} {b:SB} {o:OwR} {S:PG} {Q:Nat→QR}
theorem Hn.pgs (n:Hn C ws T w h O id p g q own L A (l++b::r) R Q) (ho:o∈b.X.L):PgS w o.pp p g (OO o.pp p g) ⟨o.pp,10,none⟩ L o.P:=(n.z.sg (List.mem_append_right _ (List.mem_cons_self ..))).page ho
theorem Hn.page (n:Hn C ws T w h O id p g q own L A (l++b::r) R Q) (ho:o∈b.X.L) (hT: ∀k,EO p g own (l++b::r) k→T k∨ws.heap.size≤k) (k:PgS w' o.pp p g (OO o.pp p g) ⟨o.pp,10,none⟩ L' S) (u:Upd (OO o.pp p g) w w') (ha:Agree L L' Y) (hY: ∀y∈Y,o.P.f≤y∧y+8≤o.P.f+o.P.n*o.P.s) (hs:S.f=o.P.f∧S.s=o.P.s∧S.n=o.P.n):
    Hn C ws T w' h O id p g q own L' A (l++turnP b o S::r) R Q:=by
  have hbm:b∈l++b::r:=List.mem_append_right _ (List.mem_cons_self ..)
  have hsg:=n.z.sg hbm
  have hw:=hsg.good.within ho
  have hf:=hsg.good.fit o ho
  refine n.seg (b':=turnP b o S) (hsg.turn ho k u ha hY hs) rfl rfl u (fun x hx=> ?_) ha (fun y hy=> ?_) (fun x hx=> .inl (BP_turn.1 hx)) fun x hx=>hT x ?_
  · rcases hx with e|e|e
    · exact .inl (.inr ⟨o,ho, .inr e⟩)
    · exact .inr (.inl e)
    · exact .inr (.inr e)
  · have h1:=hY y hy
    unfold fromS at hw
    omega
  · rcases hx with e|e|e
    · exact .inr (.inr (.inr ⟨b,hbm, .inr ⟨o,ho, .inr e⟩⟩))
    · exact .inl e
    · exact .inr (.inl e)
theorem seq_one {w:World} {a:Nat} {w2:World} (h:w2=w.alloc (.cells #[.int .u64 (a:Int)] 36)):Seq Elem.u64s w2 (.slice (some ⟨w.heap.size,0,none⟩) 1 1) [a]:=by rw [h];exact u64_oneAt w _ a _ rfl
theorem free_bad_any (n:Hn C ws T w h O id p g q own L A (l++b::r) R Q) (ho:o∈b.X.L) {a:Nat} (ha:U64B a) (hv:givenE o.P a≠0) {w2:World} (h2:w2=w.alloc (.cells #[.int .u64 (a:Int)] 36)):
    Calls Tryz.prog 230 #[.pointer (some ⟨o.pp,0,none⟩), .slice (some ⟨w.heap.size,0,none⟩) 1 1] w2 fun e w'=>e= .returned (.int .i64 (givenE o.P a))∧Below w.heap.size w w':=by
  have hb2:Below w.heap.size w w2:=by rw [h2];exact (Below.refl _ _).alloc (Nat.le_refl _) _
  have k:=(n.grew hb2).pgs ho
  exact (pg_free_bad w2 k.1 k.2.1 (seq_one h2) ha hv).mono fun e w' ⟨e1,e2⟩=>⟨e1,below_then hb2 hb2.size e2⟩
theorem free_good_any (n:Hn C ws T w h O id p g q own L A (l++b::r) R Q) (ho:o∈b.X.L) (hT: ∀k,EO p g own (l++b::r) k→T k∨ws.heap.size≤k) {a:Nat} (ha:U64B a) (hv:givenE o.P a=0) (hne:a∉o.P.F∧a∉o.P.G) {w2:World} (h2:w2=w.alloc (.cells #[.int .u64 (a:Int)] 36)):
    Calls Tryz.prog 230 #[.pointer (some ⟨o.pp,0,none⟩), .slice (some ⟨w.heap.size,0,none⟩) 1 1] w2 fun e w'=>e= .returned (.int .i64 (free1 o.P a).2)∧ ∃L',Agree L L' [a]∧GoodP L' (free1 o.P a).1∧Hn C ws T w' h O id p g q own L' A (l++turnP b o (free1 o.P a).1::r) R Q∧w.heap.size≤w'.heap.size:=by
  have hb2:Below w.heap.size w w2:=by rw [h2];exact (Below.refl _ _).alloc (Nat.le_refl _) _
  have n2:=n.grew hb2
  have k:=n2.pgs ho
  have hbk:=given_not k.2.1 hv
  have hfit:=hbk.fits k.2.1.made (Nat.le_refl _)
  have hs16:=k.2.1.s16
  obtain ⟨i,_,ei⟩:=hbk
  refine (pg_free w2 k.1 k.2.1 k.2.2.1 (seq_one h2) (fun x hx hO=> ?_) (by omega) (fun x hx=>by rw [List.mem_singleton.1 hx];exact ha) (fun j x hj hz hg=> ?_)).mono fun e w' ⟨e1,L',k2,k3,k4,k5,k6⟩=> ?_
  · have e:=in_blk hx
    have h3:x<w.heap.size:=by
      rcases hO with e|e|e
      · rw [e];exact (n.pgs ho).1.lt
      · rw [e];exact (n.pgs ho).1.mem.head.lt
      · rw [e];exact (n.pgs ho).1.mem.row.lt
    omega
  · have hj0:j=0:=by
      have:=(List.getElem?_eq_some_iff.1 hj).1
      simp at this;exact this
    subst hj0
    have hx:x=a:=by simpa using hj.symm
    subst hx
    exact hne
  · rw [freeP_hp1] at e1 k2 k3 k4
    refine ⟨e1,L',k5,k3,n2.page ho hT ⟨k2,k3,k4,by rw [free1_cw];exact k.2.2.2.1,rfl,rfl⟩ k6 k5 (fun y hy=> ?_) (free1_same o.P a),Nat.le_trans hb2.size k6.size⟩
    rw [List.mem_singleton.1 hy]
    omega
theorem turned_of {w1:World} {B1:List SB} {H':HS} {M:List Nat→Prop} (td:TdAft C w (HO p g own O B) w1 h id p g q own L' B1 R H' A' w') (hE: ∀k,EO p g own B1 k→EO p g own B k∨w.heap.size≤k) (h1:w.heap.size≤w1.heap.size) (gd:GoodH H') (hl:L'.length=L.length) (hM:M L'):Turned C HpS w h O id p g q own L B R w' H' A' M:=by
  obtain ⟨O',own',B',n,hB,he⟩:=td
  have eH:hsOf B' H'.Q=H':=hs_ext hB rfl
  refine ⟨O',own',L',B',n.z.to (by rw [eH];exact gd),hB,hl,hM,fun k hk=> ?_,n.u⟩
  rcases hk with hk|hk
  · exact n.t k hk
  · rcases he k hk with x|x
    · exact (hE k x).imp .inr fun x=>x
    · exact .inr (by omega)
end
end Go.Proofs.YtippfeplogkaiaaGreatDoor
namespace Go.Proofs.YtippfeplogkaiaaGreatDoor
open Go.RowKit ListMath PageMath GeoMath SegMath ClassMath HeapMath QueueMath ArenaMath
set_option linter.unusedVariables false
set_option maxRecDepth 100000
theorem woke_is {l r:List SB} {b:SB} {o:OwR} {S:PG} {Q:Nat→QR} (hn:((l++b::r).map fun b=>b.X.pl).Nodup):
    hsOf (l++turnP b o S::r) (setQi Q (qi o.cls) (wakeE (Q (qi o.cls)) (HeapMath.keyOf b.X o)).1)=wokeH (hsOf (l++b::r) Q) b.X o S:=by
  refine hs_ext ?_ rfl
  show (l++turnP b o S::r).map (fun b=>b.X)=((hsOf (l++b::r) Q).setB (b.X.put o.pp S)).B
  rw [map_setB (X':=b.X.put o.pp S) hn rfl,List.map_append,List.map_cons]
theorem puts_is {l r:List SB} {b:SB} {o:OwR} {S:PG} {Q:Nat→QR} (hn:((l++b::r).map fun b=>b.X.pl).Nodup):
    hsOf (l++turnP b o S::r) Q=(hsOf (l++b::r) Q).setB (b.X.put o.pp S):=by
  refine hs_ext ?_ rfl
  show (l++turnP b o S::r).map (fun b=>b.X)=((hsOf (l++b::r) Q).setB (b.X.put o.pp S)).B
  rw [map_setB (X':=b.X.put o.pp S) hn rfl,List.map_append,List.map_cons]
section
variable {w0 w w':World} {C:SgC w0} {h id p g q:Nat} {O own:Nat→Prop} {L L':List Nat} {A A':St} {B R:List SB} {Q:Nat→QR}
theorem turned_still {H':HS} {M:List Nat→Prop} (hw:Below w0.heap.size w0 w) (z:Hz C HpS w h O id p g q own L A B R Q) (hb:Below w.heap.size w w') (eH:H'=hsOf B Q) (hA:A'=A) (hM:M L):Turned C HpS w h O id p g q own L B R w' H' A' M:=by
  subst eH hA
  have n:=(Hn.start (T:=HO p g own O B) hw (Hr.of z) fun k hk=> .inl hk).grew hb
  exact turned_of (td:=⟨O,own,B,n,rfl,fun k hk=> .inl hk⟩) (fun k hk=> .inl hk) (Nat.le_refl _) z.good rfl hM
theorem hp_free_none (LY:Lay w0) (hw:Below w0.heap.size w0 w) {a:Nat} (z:Hz C HpS w h O id p g q own L A B R Q) (ha:U64B a) (hf:findH (hsOf B Q) a=none):
    Calls Tryz.prog 189 #[.pointer (some ⟨h,0,none⟩), .int .u64 (a:Int)] w fun e w'=>e= .returned (.int .i64 5)∧Below w.heap.size w w':=by
  have FI:=Lib.hid (find_any hw (Hr.of z) ha)
  have hFH:=findB_H B Q a
  cases hB:findB B a with
  |some zz=>rw [hB,hf] at hFH;cases hFH
  | none=>
    rw [hB] at FI
    change Hid (Calls _ _ _ _ fun e w'=>e= .returned (.tuple #[.pointer none, .pointer none])∧_) at FI
    clear hFH hB hf z ha hw
    go_enter Tryz.func189,Tryz.ntmps189
    go_wp2_with fail
    refine FI.out.mono ?_;rintro e w1 ⟨rfl,hb⟩
    have B1:=Lib.hid hb
    clear hb
    go_wp2
    go_ret
    exact ⟨rfl,B1.out⟩
set_option maxHeartbeats 4000000 in
theorem hp_free (LY:Lay w0) (hw:Below w0.heap.size w0 w) {a:Nat} (z:Hz C HpS w h O id p g q own L A B R Q) (ha:U64B a) (hne: ∀X o,findH (hsOf B Q) a=some (X,o)→givenE o.P a=0→a∉o.P.F∧a∉o.P.G):
    Calls Tryz.prog 189 #[.pointer (some ⟨h,0,none⟩), .int .u64 (a:Int)] w fun e w'=>e= .returned (.int .i64 (freeH (hsOf B Q) A a).2)∧Turned C HpS w h O id p g q own L B R w' (freeH (hsOf B Q) A a).1.1 (freeH (hsOf B Q) A a).1.2 fun L'=>Agree L L' [a]∧ ∀X o,findH (hsOf B Q) a=some (X,o)→GoodP L' (free1 o.P a).1:=by
  have n0:=Hn.start (T:=HO p g own O B) hw (Hr.of z) fun k hk=> .inl hk
  have FI:=Lib.hid (find_any hw (Hr.of z) ha)
  have hFH:=findB_H B Q a
  obtain ⟨H',hH'⟩: ∃H',(freeH (hsOf B Q) A a).1.1=H':=⟨_,rfl⟩
  obtain ⟨A',hA'⟩: ∃A',(freeH (hsOf B Q) A a).1.2=A':=⟨_,rfl⟩
  obtain ⟨er,her⟩: ∃er,(freeH (hsOf B Q) A a).2=er:=⟨_,rfl⟩
  rw [hH',hA',her]
  cases hf:findB B a with
  | none=>
    rw [hf] at FI hFH
    change findH (hsOf B Q) a=none at hFH
    change Hid (Calls _ _ _ _ fun e w'=>e= .returned (.tuple #[.pointer none, .pointer none])∧_) at FI
    have e0:freeH (hsOf B Q) A a=((hsOf B Q,A),5):=by unfold freeH;rw [hFH]
    rw [e0] at hH' hA' her
    have FIN:Hid (∀w2,Below w.heap.size w w2→Turned C HpS w h O id p g q own L B R w2 H' A' fun L'=>Agree L L' [a]∧ ∀X o,findH (hsOf B Q) a=some (X,o)→GoodP L' (free1 o.P a).1):=Lib.hid fun w2 hb=>
      turned_still hw z hb hH'.symm hA'.symm ⟨(Agree.refl L []).mono (fun x hx=>by cases hx),fun X o hx=>by rw [hFH] at hx;cases hx⟩
    obtain rfl:er=5:=her.symm
    clear n0 hFH hH' hA' her hf e0 z hne ha hw
    go_enter Tryz.func189,Tryz.ntmps189
    go_wp2_with fail
    refine FI.out.mono ?_;rintro e w1 ⟨rfl,hb⟩
    have F1:=Lib.hid (FIN.out w1 hb)
    clear hb
    go_wp2
    go_ret
    exact ⟨rfl,F1.out⟩
  | some zz =>
    obtain ⟨b,o⟩:=zz
    rw [hf] at FI hFH
    change findH (hsOf B Q) a=some (b.X,o) at hFH
    change Hid (Calls _ _ _ _ fun e w'=>e= .returned (.tuple #[.pointer (some ⟨b.sp,0,none⟩), .pointer (some ⟨o.op,0,none⟩)])∧_) at FI
    obtain ⟨hbB,hfo⟩:=findB_some hf
    have ho:=(findO_some hfo).1
    obtain ⟨l,r,rfl⟩:=List.append_of_mem hbB
    have hs:=n0.z.sg hbB
    have gp:=(n0.pgs ho).2.1
    have hXm:b.X∈(hsOf (l++b::r) Q).B:=List.mem_map.2 ⟨b,hbB,rfl⟩
    have D0:=Lib.hid (fun w2 (hb2:Below w.heap.size w w2)=>show w2.cell? ⟨o.op,0,none⟩=some (.pointer (some ⟨o.pp,0,none⟩)) from ((hs.grew hb2).own o ho).cell 0)
    by_cases hv:givenE o.P a=0
    · have hT : ∀k,EO p g own (l++b::r) k→HO p g own O (l++b::r) k∨w.heap.size≤k:=fun k hk=> .inl (.inr hk)
      have PF:=Lib.hid (fun w1 w2 (hb1:Below w.heap.size w w1) (h2:w2=w1.alloc (.cells #[.int .u64 (a:Int)] 36))=>free_good_any (n0.grew hb1) ho hT ha hv (hne _ _ hFH hv) h2)
      obtain ⟨S1,hS1⟩: ∃S1,(free1 o.P a).1=S1:=⟨_,rfl⟩
      obtain ⟨fe,hfe⟩: ∃fe,(free1 o.P a).2=fe:=⟨_,rfl⟩
      rw [hS1,hfe] at PF
      have hsame:S1.f=o.P.f∧S1.s=o.P.s∧S1.n=o.P.n:=by rw [←hS1];exact free1_same o.P a
      by_cases hf0:fe=0
      · subst hf0
        have t1:((0:Int) !=0)=false:=by decide
        have e0:freeH (hsOf (l++b::r) Q) A a=(tidyH (wokeH (hsOf (l++b::r) Q) b.X o S1) A (b.X.put o.pp S1) {o with P:=S1},0):=by
          unfold freeH
          rw [hFH]
          simp only []
          rw [if_neg (by rw [hfe];simp),hS1]
        rw [e0] at hH' hA' her
        obtain rfl:er=0:=her.symm
        have gw:=good_woke z.good hXm ho hsame
        have ho1:=put_in ho S1
        have WK:Hid (∀w2 L',Hn C w (HO p g own O (l++b::r)) w2 h O id p g q own L' A (l++turnP b o S1::r) R Q→Calls Tryz.prog 231 #[.pointer (some ⟨h,0,none⟩), .pointer (some ⟨o.op,0,none⟩)] w2 fun e w'=>e= .returned (.tuple #[])∧ ∃O',Hn C w (HO p g own O (l++b::r)) w' h O' id p g q own L' A (l++turnP b o S1::r) R (setQi Q (qi o.cls) (wakeE (Q (qi o.cls)) (HeapMath.keyOf b.X o)).1)∧w2.heap.size≤w'.heap.size):=Lib.hid fun w2 L' n2=>by
          refine (wake_any LY (Hn.start (T:=O) n2.b n2.z fun k hk=>hk) (List.mem_append_right _ (List.mem_cons_self ..)) ho1).mono fun e w' ⟨e1,O',n3⟩=>⟨e1,O',n2.then n3,n3.u.size⟩
        have TD:Hid (∀w3 L' O',L'.length=L.length→Agree L L' [a]→GoodP L' S1→w.heap.size≤w3.heap.size→Hn C w (HO p g own O (l++b::r)) w3 h O' id p g q own L' A (l++turnP b o S1::r) R (setQi Q (qi o.cls) (wakeE (Q (qi o.cls)) (HeapMath.keyOf b.X o)).1)→Calls Tryz.prog 232 #[.pointer (some ⟨h,0,none⟩), .pointer (some ⟨b.sp,0,none⟩), .pointer (some ⟨o.op,0,none⟩)] w3 fun e w'=>e= .returned (.tuple #[])∧Turned C HpS w h O id p g q own L (l++b::r) R w' H' A' fun L'=>Agree L L' [a]∧ ∀X o,findH (hsOf (l++b::r) Q) a=some (X,o)→GoodP L' (free1 o.P a).1):=Lib.hid fun w3 L' O' hl hag hgp h3 n3=>by
          have eW:=woke_is (S:=S1) (o:=o) (Q:=Q) n0.z.pls
          have:=tidy_any LY n3 (o:={o with P:=S1}) (by rw [eW];exact gw) ho1 fun k hk=> ?_
          · rw [eW] at this
            change Calls _ _ _ _ fun e w'=>_∧TdAft C w (HO p g own O (l++b::r)) w3 h id p g q own L' (l++turnP b o S1::r) R (tidyH (wokeH (hsOf (l++b::r) Q) b.X o S1) A (b.X.put o.pp S1) {o with P:=S1}).1 (tidyH (wokeH (hsOf (l++b::r) Q) b.X o S1) A (b.X.put o.pp S1) {o with P:=S1}).2 w' at this
            rw [hH',hA'] at this
            refine this.mono fun e w' ⟨e1,td⟩=>⟨e1,turned_of td (fun k hk=>EO_turn (fun x hx=> .inl (BP_turn.1 hx)) hk) h3 ?_ hl ⟨hag,fun X u hu=> ?_⟩⟩
            · rw [←hH'];exact good_tidy gw (mem_setB.2 (.inl ⟨rfl,b.X,hXm,rfl⟩)) ho1
            · rw [hFH] at hu
              cases hu
              rw [hS1];exact hgp
          · rcases hk with hk|hk
            · exact .inl (.inr (.inr (.inr (.inr ⟨b,hbB,BP_turn.1 hk⟩))))
            · exact .inl (.inr (.inr (.inr (.inl hk))))
        obtain ⟨sp,hsp⟩: ∃sp,b.sp=sp:=⟨_,rfl⟩
        obtain ⟨op,hop⟩: ∃op,o.op=op:=⟨_,rfl⟩
        obtain ⟨pp,hpp⟩: ∃pp,o.pp=pp:=⟨_,rfl⟩
        rw [hop,hpp] at D0
        rw [hpp] at PF
        rw [hop] at WK
        rw [hsp,hop] at TD FI
        clear n0 hFH hH' hA' her hf e0 z hne ha hw hbB hfo ho hs gp hXm hv hT hS1 hfe hsame gw ho1 hsp hop hpp
        go_enter Tryz.func189,Tryz.ntmps189
        go_wp2_with fail
        refine FI.out.mono ?_;rintro e w1 ⟨rfl,hb⟩
        have B1:=Lib.hid hb
        have d0:=D0.out w1 hb
        clear hb
        go_wp2_with fail
        refine (PF.out w1 _ B1.out rfl).mono ?_;rintro e w2 ⟨rfl,L2,h1,h2,h3,h4⟩
        have N2:=Lib.hid h3;have A2:=Lib.hid h1;have G2:=Lib.hid h2;have Z2:=Lib.hid (Nat.le_trans B1.out.size h4)
        clear h1 h2 h3 h4 d0
        go_wp2_with fail
        refine (WK.out _ _ N2.out).mono ?_;rintro e w3 ⟨rfl,O3,hn3,hz3⟩
        have N3:=Lib.hid hn3;have Z3:=Lib.hid (Nat.le_trans Z2.out hz3)
        clear hn3 hz3
        go_wp2_with fail
        refine (TD.out _ _ _ A2.out.1 A2.out G2.out Z3.out N3.out).mono ?_;rintro e w4 ⟨rfl,ht⟩
        have T4:=Lib.hid ht
        clear ht
        go_wp2
        go_ret
        exact ⟨rfl,T4.out⟩
      · have hfr:(free1 o.P a).1=o.P∧S1=o.P:=by
          have:(free1 o.P a).1=o.P:=by
            unfold free1 at hfe⊢
            rw [if_neg (by rw [hv];simp)] at hfe⊢
            split at hfe
            · rename_i hu;rw [if_pos hu]
            · exact absurd hfe.symm hf0
          exact ⟨this,hS1.symm.trans this⟩
        have e0:freeH (hsOf (l++b::r) Q) A a=((hsOf (l++b::r) Q,A),fe):=by
          unfold freeH
          rw [hFH]
          simp only []
          rw [if_pos (by rw [hfe];exact hf0),hfe]
        rw [e0] at hH' hA' her
        have hb1:turnP b o S1=b:=by
          unfold turnP
          rw [hfr.2,put_self hs.pps ho]
        have PF:=Lib.hid (fun w1 w2 (hb1':Below w.heap.size w w1) (h2:w2=w1.alloc (.cells #[.int .u64 (a:Int)] 36))=>(PF.out w1 w2 hb1' h2).mono fun e w' ⟨k1,L',k2,k3,k4,k5⟩=>show e=Ending.returned (.int .i64 er)∧Turned C HpS w h O id p g q own L (l++b::r) R w' H' A' (fun L'=>Agree L L' [a]∧ ∀X o,findH (hsOf (l++b::r) Q) a=some (X,o)→GoodP L' (free1 o.P a).1) from ⟨k1.trans (by rw [←her]),by
          rw [hb1] at k4
          exact turned_of (td:=⟨O,own,l++b::r,by rw [←hH',←hA'];exact k4,by rw [←hH'];rfl,fun k hk=> .inl hk⟩) (fun k hk=> .inl hk) (Nat.le_refl _) (by rw [←hH'];exact z.good) k2.1 ⟨k2,fun X u hu=>by
            rw [hFH] at hu
            cases hu
            rw [hS1];exact k3⟩⟩)
        have t1:(er !=0)=true:=by rw [←her,bne_iff_ne];exact hf0
        clear her hf0
        obtain ⟨sp,hsp⟩: ∃sp,b.sp=sp:=⟨_,rfl⟩
        obtain ⟨op,hop⟩: ∃op,o.op=op:=⟨_,rfl⟩
        obtain ⟨pp,hpp⟩: ∃pp,o.pp=pp:=⟨_,rfl⟩
        rw [hop,hpp] at D0
        rw [hpp] at PF
        rw [hsp,hop] at FI
        clear n0 hFH hH' hA' hf e0 z hne ha hw hbB hfo ho hs gp hXm hv hT hS1 hfe hsame hfr hb1 hsp hop hpp
        go_enter Tryz.func189,Tryz.ntmps189
        go_wp2_with fail
        refine FI.out.mono ?_;rintro e w1 ⟨rfl,hb⟩
        have B1:=Lib.hid hb
        have d0:=D0.out w1 hb
        clear hb
        go_wp2_with fail
        refine (PF.out w1 _ B1.out rfl).mono ?_;rintro e w2 ⟨rfl,ht⟩
        have T2:=Lib.hid ht
        clear ht d0
        go_wp2
        go_ret
        exact ⟨rfl,T2.out⟩
    · have hfe:free1 o.P a=(o.P,givenE o.P a):=by unfold free1;rw [if_pos hv]
      have e0:freeH (hsOf (l++b::r) Q) A a=((hsOf (l++b::r) Q,A),givenE o.P a):=by
        unfold freeH
        rw [hFH]
        simp only []
        rw [hfe,if_pos hv]
      rw [e0] at hH' hA' her
      have PF:=Lib.hid (fun w1 w2 (hb1':Below w.heap.size w w1) (h2:w2=w1.alloc (.cells #[.int .u64 (a:Int)] 36))=>(free_bad_any (n0.grew hb1') ho ha hv h2).mono fun e w' ⟨k1,k2⟩=>show e=Ending.returned (.int .i64 er)∧Turned C HpS w h O id p g q own L (l++b::r) R w' H' A' (fun L'=>Agree L L' [a]∧ ∀X o,findH (hsOf (l++b::r) Q) a=some (X,o)→GoodP L' (free1 o.P a).1) from ⟨k1.trans (by rw [←her]),by
        exact turned_still hw z (below_then hb1' hb1'.size k2) hH'.symm hA'.symm ⟨(Agree.refl L []).mono (fun x hx=>by cases hx),fun X u hu=>by
          rw [hFH] at hu
          cases hu
          rw [hfe];exact gp⟩⟩)
      have t1:(er !=0)=true:=by rw [←her,bne_iff_ne];exact hv
      clear her
      obtain ⟨sp,hsp⟩: ∃sp,b.sp=sp:=⟨_,rfl⟩
      obtain ⟨op,hop⟩: ∃op,o.op=op:=⟨_,rfl⟩
      obtain ⟨pp,hpp⟩: ∃pp,o.pp=pp:=⟨_,rfl⟩
      rw [hop,hpp] at D0
      rw [hpp] at PF
      rw [hsp,hop] at FI
      clear n0 hFH hH' hA' hf e0 z hne ha hw hbB hfo ho hs gp hXm hv hfe hsp hop hpp
      go_enter Tryz.func189,Tryz.ntmps189
      go_wp2_with fail
      refine FI.out.mono ?_;rintro e w1 ⟨rfl,hb⟩
      have B1:=Lib.hid hb
      have d0:=D0.out w1 hb
      clear hb
      go_wp2_with fail
      refine (PF.out w1 _ B1.out rfl).mono ?_;rintro e w2 ⟨rfl,ht⟩
      have T2:=Lib.hid ht
      clear ht d0
      go_wp2
      go_ret
      exact ⟨rfl,T2.out⟩
end
end Go.Proofs.YtippfeplogkaiaaGreatDoor
namespace Go.Proofs.YtippfeplogkaiaaGreatDoor
open Go.RowKit ListMath PageMath GeoMath SegMath ClassMath HeapMath QueueMath ArenaMath
set_option linter.unusedVariables false
set_option maxRecDepth 100000
theorem pgs_gather {w:World} {pp p g:Nat} {L P:List Nat} {S:PG} (h:PgS w pp p g (OO pp p g) ⟨pp,10,none⟩ L S) (hP:chainN L S.cw (S.n:Int)=some P) (hu:P.length≤S.used) (hin: ∀x∈P,IsBlk S.f S.s S.made x∧x∉S.F∧x∉S.G) (hn:P.Nodup):
    Calls Tryz.prog 252 #[.pointer (some ⟨pp,0,none⟩)] w fun e w'=>e= .returned (.tuple #[.int .i64 (P.length:Int), .int .i64 0])∧ ∃L',PgS w' pp p g (OO pp p g) ⟨pp,10,none⟩ L' (gathP S P)∧Agree L L' P∧Upd (OO pp p g) w w':=by
  obtain ⟨h1,h2,h3,h4,-,-⟩:=h
  refine (pg_gather w h1 h2 h3 h4 hP hu).mono fun e w' ⟨k1,k2,k3⟩=>⟨k1, ?_⟩
  by_cases hPn:P= []
  · subst hPn
    rw [if_pos rfl] at k2
    exact ⟨L,⟨k2,h2.wrote 0,gathP_add h3 hu,Nat.zero_le _,rfl,rfl⟩,Agree.refl _ _,k3⟩
  · rw [if_neg hPn] at k2
    obtain ⟨g1,g2,g3⟩:=h2.gath (chain_rowF hP).1 hPn hin hn
    exact ⟨_,⟨k2,g1,gathP_add h3 hu,Nat.zero_le _,rfl,rfl⟩,(Agree.put g3).mono (fun x hx=>by rw [List.mem_singleton.1 hx];exact g2),k3⟩
section
variable {w0 w w':World} {C:SgC w0} {h id p g q:Nat} {O own:Nat→Prop} {L L':List Nat} {A A':St} {B R:List SB} {Q:Nat→QR}
set_option maxHeartbeats 1000000 in
theorem hp_gather_none (hw:Below w0.heap.size w0 w) {a:Nat} (z:Hz C HpS w h O id p g q own L A B R Q) (ha:U64B a) (hf:findH (hsOf B Q) a=none):
    Calls Tryz.prog 219 #[.pointer (some ⟨h,0,none⟩), .int .u64 (a:Int)] w fun e w'=>e= .returned (.tuple #[.int .i64 0, .int .i64 5])∧Below w.heap.size w w':=by
  have FI:=Lib.hid (find_any hw (Hr.of z) ha)
  have hFH:=findB_H B Q a
  rw [hf] at hFH
  have hfb:findB B a=none:=Option.map_eq_none_iff.1 hFH.symm
  rw [hfb] at FI
  change Hid (Calls _ _ _ _ fun e w'=>e= .returned (.tuple #[.pointer none, .pointer none])∧_) at FI
  clear z ha hf hFH hfb hw
  go_enter Tryz.func219,Tryz.ntmps219
  go_wp2_with fail
  refine FI.out.mono ?_;rintro e w1 ⟨rfl,hb⟩
  have F1:=Lib.hid hb
  clear hb
  go_wp2
  go_ret2
  exact ⟨rfl,F1.out⟩
set_option maxHeartbeats 4000000 in
theorem hp_gather (LY:Lay w0) (hw:Below w0.heap.size w0 w) {a:Nat} {X:SG} {o:OwR} {P:List Nat} (z:Hz C HpS w h O id p g q own L A B R Q) (ha:U64B a) (hf:findH (hsOf B Q) a=some (X,o)) (hP:chainN L o.P.cw (o.P.n:Int)=some P) (hu:P.length≤o.P.used) (hin: ∀x∈P,IsBlk o.P.f o.P.s o.P.made x∧x∉o.P.F∧x∉o.P.G) (hnd:P.Nodup):
    Calls Tryz.prog 219 #[.pointer (some ⟨h,0,none⟩), .int .u64 (a:Int)] w fun e w'=>e= .returned (.tuple #[.int .i64 (P.length:Int), .int .i64 0])∧Turned C HpS w h O id p g q own L B R w' (gathH (hsOf B Q) A X o P).1 (gathH (hsOf B Q) A X o P).2 fun L'=>Agree L L' P∧GoodP L' (gathP o.P P):=by
  have n0:=Hn.start (T:=HO p g own O B) hw (Hr.of z) fun k hk=> .inl hk
  have FI:=Lib.hid (find_any hw (Hr.of z) ha)
  have hFH:=findB_H B Q a
  rw [hf] at hFH
  obtain ⟨⟨b,o'⟩,hfb,e⟩:=Option.map_eq_some_iff.1 hFH.symm
  cases e
  rw [hfb] at FI
  change Hid (Calls _ _ _ _ fun e w'=>e= .returned (.tuple #[.pointer (some ⟨b.sp,0,none⟩), .pointer (some ⟨o'.op,0,none⟩)])∧_) at FI
  change chainN L o'.P.cw (o'.P.n:Int)=some P at hP
  change P.length≤o'.P.used at hu
  change ∀x∈P,IsBlk o'.P.f o'.P.s o'.P.made x∧x∉o'.P.F∧x∉o'.P.G at hin
  show Calls _ _ _ _ fun e w'=>_∧Turned C HpS w h O id p g q own L B R w' (gathH (hsOf B Q) A b.X o' P).1 (gathH (hsOf B Q) A b.X o' P).2 fun L'=>Agree L L' P∧GoodP L' (gathP o'.P P)
  obtain ⟨o,rfl⟩: ∃o,o'=o:=⟨_,rfl⟩
  obtain ⟨hbB,hfo⟩:=findB_some hfb
  have ho:=(findO_some hfo).1
  obtain ⟨l,r,rfl⟩:=List.append_of_mem hbB
  have hs:=n0.z.sg hbB
  have gp:=(n0.pgs ho).2.1
  have hXm:b.X∈(hsOf (l++b::r) Q).B:=List.mem_map.2 ⟨b,hbB,rfl⟩
  have D0:=Lib.hid (fun w2 (hb2:Below w.heap.size w w2)=>show w2.cell? ⟨o'.op,0,none⟩=some (.pointer (some ⟨o'.pp,0,none⟩)) from ((hs.grew hb2).own o' ho).cell 0)
  have hT: ∀k,EO p g own (l++b::r) k→HO p g own O (l++b::r) k∨w.heap.size≤k:=fun k hk=> .inl (.inr hk)
  obtain ⟨S1,hS1⟩: ∃S1,gathP o'.P P=S1:=⟨_,rfl⟩
  have hsame:S1.f=o'.P.f∧S1.s=o'.P.s∧S1.n=o'.P.n:=by rw [←hS1];exact ⟨rfl,rfl,rfl⟩
  have GA:=Lib.hid (fun w1 (hb1:Below w.heap.size w w1)=>(pgs_gather ((n0.grew hb1).pgs ho) hP hu hin hnd).mono fun e w' ⟨k1,L',k2,k3,k4⟩=>show e=Ending.returned (.tuple #[.int .i64 (P.length:Int), .int .i64 0])∧ ∃L',Agree L L' P∧GoodP L' S1∧Hn C w (HO p g own O (l++b::r)) w' h O id p g q own L' A (l++turnP b o' S1::r) R Q∧w.heap.size≤w'.heap.size from
    ⟨k1,L',k3,by rw [←hS1];exact k2.2.1,(n0.grew hb1).page ho hT (by rw [←hS1];exact k2) k4 k3 (fun y hy=>by
      have hbk:=(hin y hy).1
      have hfit:=hbk.fits gp.made (Nat.le_refl _)
      have hs16:=gp.s16
      obtain ⟨i,_,ei⟩:=hbk
      omega) hsame,Nat.le_trans hb1.size k4.size⟩)
  obtain ⟨H',hH'⟩: ∃H',(gathH (hsOf (l++b::r) Q) A b.X o' P).1=H':=⟨_,rfl⟩
  obtain ⟨A',hA'⟩: ∃A',(gathH (hsOf (l++b::r) Q) A b.X o' P).2=A':=⟨_,rfl⟩
  rw [hH',hA',hS1]
  have ho1:=put_in ho S1
  have hgH:GoodH H':=by rw [←hH'];exact good_gath z.good A hXm ho P
  have hTT: ∀k,BP (turnP b o' S1) k∨own k→HO p g own O (l++b::r) k∨w.heap.size≤k:=fun k hk=>by
    rcases hk with hk|hk
    · exact .inl (.inr (.inr (.inr (.inr ⟨b,hbB,BP_turn.1 hk⟩))))
    · exact .inl (.inr (.inr (.inr (.inl hk))))
  by_cases hPn:P= []
  · have eW:=puts_is (S:=S1) (o:=o') (Q:=Q) n0.z.pls
    have gw:GoodH ((hsOf (l++b::r) Q).setB (b.X.put o'.pp S1)):=z.good.put hXm ho hsame
    have eG:gathH (hsOf (l++b::r) Q) A b.X o' P=tidyH ((hsOf (l++b::r) Q).setB (b.X.put o'.pp S1)) A (b.X.put o'.pp S1) {o' with P:=S1}:=by unfold gathH;rw [if_pos hPn,hS1]
    have TD:Hid (∀w3 L',L'.length=L.length→Agree L L' P→GoodP L' S1→w.heap.size≤w3.heap.size→Hn C w (HO p g own O (l++b::r)) w3 h O id p g q own L' A (l++turnP b o' S1::r) R Q→Calls Tryz.prog 232 #[.pointer (some ⟨h,0,none⟩), .pointer (some ⟨b.sp,0,none⟩), .pointer (some ⟨o'.op,0,none⟩)] w3 fun e w'=>e= .returned (.tuple #[])∧Turned C HpS w h O id p g q own L (l++b::r) R w' H' A' fun L'=>Agree L L' P∧GoodP L' S1):=Lib.hid fun w3 L' hl hag hgp h3 n3=>by
      have:=tidy_any LY n3 (o:={o' with P:=S1}) (by rw [eW];exact gw) ho1 hTT
      rw [eW] at this
      change Calls _ _ _ _ fun e w'=>_∧TdAft C w (HO p g own O (l++b::r)) w3 h id p g q own L' (l++turnP b o' S1::r) R (tidyH ((hsOf (l++b::r) Q).setB (b.X.put o'.pp S1)) A (b.X.put o'.pp S1) {o' with P:=S1}).1 (tidyH ((hsOf (l++b::r) Q).setB (b.X.put o'.pp S1)) A (b.X.put o'.pp S1) {o' with P:=S1}).2 w' at this
      rw [←eG,hH',hA'] at this
      exact this.mono fun e w' ⟨e1,td⟩=>⟨e1,turned_of td (fun k hk=>EO_turn (fun x hx=> .inl (BP_turn.1 hx)) hk) h3 hgH hl ⟨hag,hgp⟩⟩
    obtain ⟨sp,hsp⟩: ∃sp,b.sp=sp:=⟨_,rfl⟩
    obtain ⟨op,hop⟩: ∃op,o'.op=op:=⟨_,rfl⟩
    obtain ⟨pp,hpp⟩: ∃pp,o'.pp=pp:=⟨_,rfl⟩
    rw [hop,hpp] at D0
    rw [hpp] at GA
    rw [hsp,hop] at TD FI
    have HPN:=Lib.hid (show P.length=0 by rw [hPn];rfl)
    obtain ⟨np,hnp⟩: ∃np,P.length=np:=⟨_,rfl⟩
    obtain rfl:np=0:=by rw [←hnp];exact HPN.out
    rw [hnp] at GA⊢
    clear n0 hFH hH' hA' hf hfb z ha hw hbB hfo ho hs gp hXm hT hS1 hsame ho1 hsp hop hpp hPn hnp hP hu hin hnd hgH hTT eW gw eG
    go_enter Tryz.func219,Tryz.ntmps219
    go_wp2_with fail
    refine FI.out.mono ?_;rintro e w1 ⟨rfl,hb⟩
    have B1:=Lib.hid hb
    have d0:=D0.out w1 hb
    clear hb
    go_wp2_with fail
    refine (GA.out w1 B1.out).mono ?_;rintro e w2 ⟨rfl,L2,h1,h2,h3,h4⟩
    have N2:=Lib.hid h3;have A2:=Lib.hid h1;have G2:=Lib.hid h2;have Z2:=Lib.hid h4
    clear h1 h2 h3 h4 d0
    go_wp2_with fail
    refine (TD.out _ _ A2.out.1 A2.out G2.out Z2.out N2.out).mono ?_;rintro e w4 ⟨rfl,ht⟩
    have T4:=Lib.hid ht
    clear ht
    go_wp2
    go_ret2
    exact ⟨rfl,T4.out⟩
  · have eW:=woke_is (S:=S1) (o:=o') (Q:=Q) n0.z.pls
    have gw:GoodH (wokeH (hsOf (l++b::r) Q) b.X o' S1):=good_woke z.good hXm ho hsame
    have eG:gathH (hsOf (l++b::r) Q) A b.X o' P=tidyH (wokeH (hsOf (l++b::r) Q) b.X o' S1) A (b.X.put o'.pp S1) {o' with P:=S1}:=by unfold gathH;rw [if_neg hPn,hS1]
    have WK:Hid (∀w2 L',Hn C w (HO p g own O (l++b::r)) w2 h O id p g q own L' A (l++turnP b o' S1::r) R Q→Calls Tryz.prog 231 #[.pointer (some ⟨h,0,none⟩), .pointer (some ⟨o'.op,0,none⟩)] w2 fun e w'=>e= .returned (.tuple #[])∧ ∃O',Hn C w (HO p g own O (l++b::r)) w' h O' id p g q own L' A (l++turnP b o' S1::r) R (setQi Q (qi o'.cls) (wakeE (Q (qi o'.cls)) (HeapMath.keyOf b.X o')).1)∧w2.heap.size≤w'.heap.size):=Lib.hid fun w2 L' n2=>by
      refine (wake_any LY (Hn.start (T:=O) n2.b n2.z fun k hk=>hk) (List.mem_append_right _ (List.mem_cons_self ..)) ho1).mono fun e w' ⟨e1,O',n3⟩=>⟨e1,O',n2.then n3,n3.u.size⟩
    have TD:Hid (∀w3 L' O',L'.length=L.length→Agree L L' P→GoodP L' S1→w.heap.size≤w3.heap.size→Hn C w (HO p g own O (l++b::r)) w3 h O' id p g q own L' A (l++turnP b o' S1::r) R (setQi Q (qi o'.cls) (wakeE (Q (qi o'.cls)) (HeapMath.keyOf b.X o')).1)→Calls Tryz.prog 232 #[.pointer (some ⟨h,0,none⟩), .pointer (some ⟨b.sp,0,none⟩), .pointer (some ⟨o'.op,0,none⟩)] w3 fun e w'=>e= .returned (.tuple #[])∧Turned C HpS w h O id p g q own L (l++b::r) R w' H' A' fun L'=>Agree L L' P∧GoodP L' S1):=Lib.hid fun w3 L' O' hl hag hgp h3 n3=>by
      have:=tidy_any LY n3 (o:={o' with P:=S1}) (by rw [eW];exact gw) ho1 hTT
      rw [eW] at this
      change Calls _ _ _ _ fun e w'=>_∧TdAft C w (HO p g own O (l++b::r)) w3 h id p g q own L' (l++turnP b o' S1::r) R (tidyH (wokeH (hsOf (l++b::r) Q) b.X o' S1) A (b.X.put o'.pp S1) {o' with P:=S1}).1 (tidyH (wokeH (hsOf (l++b::r) Q) b.X o' S1) A (b.X.put o'.pp S1) {o' with P:=S1}).2 w' at this
      rw [←eG,hH',hA'] at this
      exact this.mono fun e w' ⟨e1,td⟩=>⟨e1,turned_of td (fun k hk=>EO_turn (fun x hx=> .inl (BP_turn.1 hx)) hk) h3 hgH hl ⟨hag,hgp⟩⟩
    obtain ⟨sp,hsp⟩: ∃sp,b.sp=sp:=⟨_,rfl⟩
    obtain ⟨op,hop⟩: ∃op,o'.op=op:=⟨_,rfl⟩
    obtain ⟨pp,hpp⟩: ∃pp,o'.pp=pp:=⟨_,rfl⟩
    rw [hop,hpp] at D0
    rw [hpp] at GA
    rw [hop] at WK
    rw [hsp,hop] at TD FI
    obtain ⟨np,hnp⟩: ∃np,P.length=np:=⟨_,rfl⟩
    have hnp0:0<np:=by rw [←hnp];exact List.length_pos_iff.2 hPn
    rw [hnp] at GA⊢
    have t1:decide ((np:Int)>0)=true:=decide_eq_true (by omega)
    have t1':decide (0<np)=true:=decide_eq_true hnp0
    have t1'':decide ((0:Int)<(np:Int))=true:=decide_eq_true (by omega)
    clear n0 hFH hH' hA' hf hfb z ha hw hbB hfo ho hs gp hXm hT hS1 hsame ho1 hsp hop hpp hPn hnp hP hu hin hnd hgH hTT eW gw eG
    go_enter Tryz.func219,Tryz.ntmps219
    go_wp2_with fail
    refine FI.out.mono ?_;rintro e w1 ⟨rfl,hb⟩
    have B1:=Lib.hid hb
    have d0:=D0.out w1 hb
    clear hb
    go_wp2_with fail
    refine (GA.out w1 B1.out).mono ?_;rintro e w2 ⟨rfl,L2,h1,h2,h3,h4⟩
    have N2:=Lib.hid h3;have A2:=Lib.hid h1;have G2:=Lib.hid h2;have Z2:=Lib.hid h4
    clear h1 h2 h3 h4 d0
    go_wp2_with fail
    refine (WK.out _ _ N2.out).mono ?_;rintro e w3 ⟨rfl,O3,hn3,hz3⟩
    have N3:=Lib.hid hn3;have Z3:=Lib.hid (Nat.le_trans Z2.out hz3)
    clear hn3 hz3
    go_wp2_with fail
    refine (TD.out _ _ _ A2.out.1 A2.out G2.out Z3.out N3.out).mono ?_;rintro e w4 ⟨rfl,ht⟩
    have T4:=Lib.hid ht
    clear ht
    go_wp2
    go_ret2
    exact ⟨rfl,T4.out⟩
end
end Go.Proofs.YtippfeplogkaiaaGreatDoor
namespace Go.Proofs.YtippfeplogkaiaaGreatDoor
open Go.RowKit ListMath PageMath GeoMath SegMath ClassMath HeapMath QueueMath ArenaMath
set_option linter.unusedVariables false
set_option maxRecDepth 100000
theorem newsOf_full {S:PG} (h:(refill S).F= []):newsOf S= []:=by
  unfold newsOf
  split
  · rename_i hc
    unfold refill at h
    rw [if_neg (fun x=>x hc.1),if_neg (fun x=>x hc.2)] at h
    exact h
  · rfl
theorem alloc_cases (S:PG):((allocP S).2.2=0∧(allocP S).1.f=S.f∧(allocP S).1.s=S.s∧(allocP S).1.n=S.n)∨(allocP S=(S,0,4)∧newsOf S= []):=by
  cases hF:(refill S).F with
  |nil=>exact .inr ⟨allocP_nil hF,newsOf_full hF⟩
  | cons a t=>
    rw [allocP_cons hF]
    refine .inl ⟨rfl, ?_⟩
    show (refill S).f=_∧(refill S).s=_∧(refill S).n=_
    unfold refill;split
    · exact ⟨rfl,rfl,rfl⟩
    · split<;>exact ⟨rfl,rfl,rfl⟩
theorem cls_of_qi {c:Nat} (hc:c<12) {d:Int} (h1: -1≤d) (h2:d≤11) (e:qi d=c):d=(c:Int):=by
  unfold qi at e
  split at e<;>omega
section
variable {w0 ws w w':World} {C:SgC w0} {h id p g q:Nat} {O own T:Nat→Prop} {L L':List Nat} {A A':St} {B R l r:List SB} {b:SB} {o:OwR} {Q:Nat→QR}
theorem alloc_any (n:Hn C ws T w h O id p g q own L A (l++b::r) R Q) (ho:o∈b.X.L) (hT: ∀k,EO p g own (l++b::r) k→T k∨ws.heap.size≤k):
    Calls Tryz.prog 217 #[.pointer (some ⟨o.pp,0,none⟩)] w fun e w'=>e= .returned (.tuple #[.int .u64 ((allocP o.P).2.1:Int), .int .i64 (allocP o.P).2.2])∧ ∃L',Agree L L' (newsOf o.P)∧Hn C ws T w' h O id p g q own L' A (l++turnP b o (allocP o.P).1::r) R Q∧Upd (OO o.pp p g) w w':=by
  have k:=n.pgs ho
  refine (pg_alloc w k.1 k.2.1 k.2.2.1).mono fun e w' ⟨k1,L',k2,k3,k4,k5,k6⟩=>⟨k1,L',k5,n.page ho hT ⟨k2,k3,k4,by rw [allocP_cw];exact k.2.2.2.1,rfl,rfl⟩ k6 k5 (newsOf_run k.2.1) ?_,k6⟩
  rcases alloc_cases o.P with ⟨_,e⟩|⟨e,_⟩
  · exact e
  · rw [e];exact ⟨rfl,rfl,rfl⟩
def LcR {w0:World} (C:SgC w0) (w:World) (h:Nat) (O:Nat→Prop) (id p g q:Nat) (own:Nat→Prop) (L:List Nat) (A:St) (B R:List SB) (Q:Nat→QR) (c:Nat) (v:Value) (i:Value) (wr:World):Prop:=
  ∃ (t:Nat) (Q1:Nat→QR) (O1:Nat→Prop) (L1:List Nat),t≤(Q c).R.length∧i= .int .i64 (t:Int)∧Hn C w (HO p g own O B) wr h O1 id p g q own L1 A B R Q1∧GoodH (hsOf B Q1)∧Agree L L1 []∧
    localGo (c:Int) ((Q c).R.drop t) (hsOf B Q1)=localGo (c:Int) (Q c).R (hsOf B Q)∧Arr wr v (up (Q c)).R∧Away v (fun k=>O1 k∨EO p g own B k) wr
set_option maxHeartbeats 8000000 in
theorem hp_local (LY:Lay w0) (hw:Below w0.heap.size w0 w) {c:Int} (z:Hz C HpS w h O id p g q own L A B R Q) (hc:I64B c):
    Calls Tryz.prog 175 #[.pointer (some ⟨h,0,none⟩), .int .i64 c] w fun e w'=>e= .returned (.tuple #[.int .u64 ((localH (hsOf B Q) c).2.1:Int), .int .i64 (localH (hsOf B Q) c).2.2.1])∧Turned C HpS w h O id p g q own L B R w' (localH (hsOf B Q) c).1 A fun L'=>Agree L L' (localH (hsOf B Q) c).2.2.2:=by
  have IC:=Lib.hid (is_class (LY.below hw) hc)
  obtain ⟨E,hE⟩: ∃E,localH (hsOf B Q) c=E:=⟨_,rfl⟩
  rw [hE]
  by_cases hin:0≤c∧c<12
  · rw [decide_eq_true hin] at IC
    obtain ⟨cn,rfl⟩:=Int.eq_ofNat_of_zero_le hin.1
    have hcn:cn<12:=by omega
    have hqi:qi (cn:Int)=cn:=by unfold qi;rw [if_neg (by omega),Int.toNat_natCast]
    have hEg:localGo (cn:Int) (Q cn).R (hsOf B Q)=E:=by
      rw [←hE]
      unfold localH
      rw [if_neg (by omega)]
      show _=localGo (cn:Int) (Q (qi (cn:Int))).R (hsOf B Q)
      rw [hqi]
    have n0:=Hn.start (T:=HO p g own O B) hw (Hr.of z) fun k hk=> .inl hk
    have hPg: ∀k∈(Q cn).R,∃b∈B,∃o∈b.X.L,o.cls=(cn:Int)∧k=HeapMath.keyOf b.X o:=fun k hk=>by
      obtain ⟨X,hX,o,ho,h1,h2⟩:=(z.good.mem cn k).1 (mem_all.2 (.inl hk))
      obtain ⟨b,hb,rfl⟩:=List.mem_map.1 hX
      have hcl:=cls_at (z.good.seg _ hX).g ho
      exact ⟨b,hb,o,ho,cls_of_qi hcn hcl.1 hcl.2 h1,h2⟩
    have hkeys:=fun i=>keys_of z.good i
    have OF:=Lib.hid (fun w2 (hb:Below w.heap.size w w2)=>of_class (LY.below (below_then hw hw.size hb)) h hcn)
    obtain ⟨n,hn⟩: ∃n,(Q cn).R.length=n:=⟨_,rfl⟩
    have hn1:n≤1024:=by
      have h1:=(hkeys cn).2
      change (Q cn).all.length≤1024 at h1
      unfold QR.all at h1
      rw [List.length_append] at h1
      omega
    have HN:=Lib.hid hn
    have RD:Hid (∀w2,Below w.heap.size w w2→Calls Tryz.prog 214 #[.pointer (some ⟨h,cn,none⟩)] w2 fun e w'=> ∃a2 c2,e= .returned (.slice a2 n c2)∧n≤c2∧c2≤9223372036854775807∧LcR C w h O id p g q own L A B R Q cn (.slice a2 n c2) (.int .i64 0) w'):=Lib.hid fun w2 hb=>by
      have n2:=n0.grew hb
      obtain ⟨rr,OQ,k1,k2,k3,k4⟩:=n2.queue (show cn<13 by omega)
      have hl0:(up (Q cn)).R.length=n:=by rw [←hn];exact List.length_map _
      have hla:(up (Q cn)).all.length≤many:=by
        have h1:=(hkeys cn).2
        change (Q cn).all.length≤1024 at h1
        rw [up_all,List.length_map]
        show _≤1000000
        omega
      refine (qp_ready w2 k1 hla).mono fun e w' ⟨v2,e1,⟨ha,hv⟩,hin,hb3⟩=> ?_
      obtain ⟨a2,c2,rfl,hc3,hc4⟩:=ha.out
      rw [hl0] at ha hv hin e1 hc3
      refine ⟨a2,c2,e1,hc3,hc4,0,Q,O,L,Nat.zero_le _,rfl,n2.grew hb3,z.good,Agree.refl _ _,rfl,ha,Away.new hin (fun k hk=>hv.lt hk) fun k hk=>n2.z.ltO ?_⟩
      rcases hk with hk|hk
      · exact .inl hk
      · exact HO_E (B:=B) (.inr hk)
    have HPG:=Lib.hid hPg;have HE:=Lib.hid hEg;have HQI:=Lib.hid hqi
    clear z n0 hPg hkeys hEg hE hn hc hqi
    go_enter Tryz.func175,Tryz.ntmps175
    go_wp2_with fail
    refine IC.out.mono ?_;rintro e w1 ⟨rfl,hb⟩
    have B1:=Lib.hid hb
    clear hb
    go_wp2_with fail
    refine (OF.out w1 B1.out).mono ?_;rintro e w2 ⟨rfl,hb⟩
    have B2:=Lib.hid (below_then B1.out B1.out.size hb)
    clear hb
    go_wp2_with fail
    refine (RD.out w2 B2.out).mono ?_;rintro e w3 ⟨a2,c2,rfl,hc3,hc4,hi⟩
    have I1:=Lib.hid hi
    clear hi RD
    go_wp2
    go_loopw [27] (fun i wr=>LcR C w h O id p g q own L A B R Q cn (.slice a2 n c2) i wr) (fun i _=>n-(intOf i).toNat)
    case atStart=>exact I1.out
    case round=>
      clear I1
      obtain ⟨t,Q1,O1,L1,ht,rfl,hn1',hg1,hag,hgo,har,haw⟩:=hrel
      rw [HN.out] at ht
      by_cases htn:t<n
      · obtain ⟨bk,off,y,ea,hy,hym,hy64,d0⟩:=har.at (t:=t) (by rw [show (up (Q cn)).R.length=(Q cn).R.length from List.length_map _,HN.out];exact htn)
        subst ea
        obtain ⟨k,hk⟩: ∃k,(Q cn).R[t]? =some k:=⟨_,List.getElem?_eq_getElem (by rw [HN.out];exact htn)⟩
        obtain ⟨b,hbB,o,ho,hcl,hkey⟩:=HPG.out k (List.mem_of_getElem? hk)
        obtain ⟨l,r,rfl⟩:=List.append_of_mem hbB
        have hy2:y=HeapMath.keyOf b.X o*1024:=by
          change ((Q cn).R.map fun k=>k*1024)[t]? =some y at hy
          rw [List.getElem?_map,hk] at hy
          injection hy with hy
          rw [←hkey];exact hy.symm
        subst hy2
        have hs:=hn1'.z.sg hbB
        have hXm:b.X∈(hsOf (l++b::r) Q1).B:=List.mem_map.2 ⟨b,hbB,rfl⟩
        have PG':=Lib.hid (page_any LY hn1' hbB ho)
        rw [hcl] at PG'
        have D0:=Lib.hid (fun w2 (hb2:Below wr.heap.size wr w2)=>show w2.cell? ⟨o.op,0,none⟩=some (.pointer (some ⟨o.pp,0,none⟩)) from ((hs.grew hb2).own o ho).cell 0)
        have hT: ∀k,EO p g own (l++b::r) k→HO p g own O (l++b::r) k∨w.heap.size≤k:=fun k hk=> .inl (.inr hk)
        have AL:=Lib.hid (fun w2 (hb2:Below wr.heap.size wr w2)=>alloc_any (hn1'.grew hb2) ho hT)
        have hdrop:(Q cn).R.drop t=k::(Q cn).R.drop (t+1):=List.drop_eq_getElem?_toList_append.trans (by rw [hk];rfl)
        have hfk:findH (hsOf (l++b::r) Q1) (k.toNat*1024)=some (b.X,o):=by rw [hkey];exact findH_key hg1 hXm ho
        obtain ⟨fr,hfr⟩: ∃fr,HeapMath.keyOf b.X o*1024=fr:=⟨_,rfl⟩
        have t2:decide ((t:Int)<(n:Int))=true:=decide_eq_true (by omega)
        have t2':decide (t<n)=true:=decide_eq_true htn
        have q3:(0:Int)≤(t:Int):=by omega
        have q4:(t:Int)<(n:Int):=by omega
        rcases alloc_cases o.P with ⟨ha0,hsame⟩|⟨ha4,hnw⟩
        · have hgo2:localGo (cn:Int) ((Q cn).R.drop t) (hsOf (l++b::r) Q1)=((hsOf (l++b::r) Q1).setB (b.X.put o.pp (allocP o.P).1),(allocP o.P).2.1,0,newsOf o.P):=by
            rw [hdrop,localGo,hfk]
            simp only []
            rw [if_pos ha0]
          rw [hgo,HE.out] at hgo2
          have FIN:Hid (∀w4 L4,Agree L1 L4 (newsOf o.P)→Hn C w (HO p g own O (l++b::r)) w4 h O1 id p g q own L4 A (l++turnP b o (allocP o.P).1::r) R Q1→Turned C HpS w h O id p g q own L (l++b::r) R w4 E.1 A fun L'=>Agree L L' E.2.2.2):=Lib.hid fun w4 L4 h4 n4=>by
            have hagg:=hag.trans h4
            rw [List.nil_append] at hagg
            rw [hgo2]
            refine turned_of (w1:=w) (td:=⟨O1,own,_,n4, ?_,fun k hk=> .inl hk⟩) (fun k hk=>EO_turn (fun x hx=> .inl (BP_turn.1 hx)) hk) (Nat.le_refl _) ?_ hagg.1 hagg
            · exact congrArg HS.B (puts_is (S:=(allocP o.P).1) (o:=o) (Q:=Q1) hn1'.z.pls)
            · exact hg1.put hXm ho hsame
          have hv1:E.2.1=(allocP o.P).2.1∧E.2.2.1=0:=by rw [hgo2];exact ⟨rfl,rfl⟩
          obtain ⟨x,hx⟩: ∃x,(allocP o.P).2.1=x:=⟨_,rfl⟩
          obtain ⟨S2,hS2⟩: ∃S2,(allocP o.P).1=S2:=⟨_,rfl⟩
          rw [ha0,hx,hS2] at AL
          rw [hS2] at FIN
          rw [hx] at hv1
          have HV:=Lib.hid hv1
          obtain ⟨op,hop⟩: ∃op,o.op=op:=⟨_,rfl⟩
          obtain ⟨pp,hpp⟩: ∃pp,o.pp=pp:=⟨_,rfl⟩
          rw [hop,hpp] at D0
          rw [hop,hfr] at PG'
          rw [hpp] at AL
          rw [hfr] at d0
          clear hn1' hg1 hag hgo har haw hy hym hy64 hk ho hcl hkey hbB hs hXm hT hdrop hfk ha0 hsame hgo2 hv1 hx hS2 hop hpp hfr HPG
          go_wp2_with fail
          refine PG'.out.mono ?_;rintro e w4 ⟨rfl,hb⟩
          have B4:=Lib.hid hb
          have d1:=D0.out w4 hb
          clear hb
          go_wp2_with fail
          refine (AL.out w4 B4.out).mono ?_;rintro e w5 ⟨rfl,L5,h5,hn5,_⟩
          have F5:=Lib.hid (FIN.out w5 L5 h5 hn5)
          clear h5 hn5 d1
          go_wp2
          go_ret2
          rw [HV.out.1,HV.out.2]
          exact ⟨rfl,F5.out⟩
        · have hq13:cn<13:=by omega
          have hb1:turnP b o (allocP o.P).1=b:=by
            rw [ha4]
            unfold turnP
            rw [put_self hs.pps ho]
          have hse:hsOf (l++b::r) (setQi Q1 cn (fillE (Q1 cn) k).1)=(hsOf (l++b::r) Q1).setQ (cn:Int) (fillE ((hsOf (l++b::r) Q1).Q (qi (cn:Int))) k).1:=by
            unfold HS.setQ setQi hsOf
            rw [HQI.out]
          have hgo2:localGo (cn:Int) ((Q cn).R.drop t) (hsOf (l++b::r) Q1)=localGo (cn:Int) ((Q cn).R.drop (t+1)) (hsOf (l++b::r) (setQi Q1 cn (fillE (Q1 cn) k).1)):=by
            rw [hse,hdrop,localGo,hfk]
            simp only []
            rw [if_neg (by rw [ha4];show ¬(4:Int)=0;decide)]
          have hg2:GoodH (hsOf (l++b::r) (setQi Q1 cn (fillE (Q1 cn) k).1)):=by rw [hse];exact hg1.fill (cn:Int) k
          rw [ha4] at AL
          have AL':Hid (∀w2,Below wr.heap.size wr w2→Calls Tryz.prog 217 #[.pointer (some ⟨o.pp,0,none⟩)] w2 fun e w'=>e= .returned (.tuple #[.int .u64 0, .int .i64 4])∧ ∃L4,Agree L1 L4 []∧Hn C w (HO p g own O (l++b::r)) w' h O1 id p g q own L4 A (l++b::r) R Q1∧Arr w' (.slice (some ⟨bk,off,none⟩) n c2) (up (Q cn)).R∧Away (.slice (some ⟨bk,off,none⟩) n c2) (fun k=>O1 k∨EO p g own (l++b::r) k) w'):=Lib.hid fun w2 hb2=>by
            refine (AL.out w2 hb2).mono fun e w' ⟨e1,L4,k1,k2,k3⟩=>⟨e1,L4,by rw [←hnw];exact k1, ?_,(har.grew hb2).upd k3 fun x hx hoo=>(haw x hx).1 (.inr ?_),fun x hx=>⟨(haw x hx).1,Nat.lt_of_lt_of_le (haw x hx).2 (Nat.le_trans hb2.size k3.size)⟩⟩
            · rw [ha4] at hb1
              have h9:turnP b o o.P=b:=hb1
              rw [show turnP b o (o.P,0,(4:Int)).1=b from h9] at k2
              exact k2
            · rcases hoo with e|e|e
              · exact .inr (.inr (.inr ⟨b,hbB, .inr ⟨o,ho, .inr e⟩⟩))
              · exact .inl e
              · exact .inr (.inl e)
          have FL:Hid (∀w5 L4,Agree L1 L4 []→Hn C w (HO p g own O (l++b::r)) w5 h O1 id p g q own L4 A (l++b::r) R Q1→Arr w5 (.slice (some ⟨bk,off,none⟩) n c2) (up (Q cn)).R→Away (.slice (some ⟨bk,off,none⟩) n c2) (fun k=>O1 k∨EO p g own (l++b::r) k) w5→Calls Tryz.prog 218 #[.pointer (some ⟨h,cn,none⟩), .int .i64 fr] w5 fun e w'=>(∃x:Int,e= .returned (.int .i64 x))∧LcR C w h O id p g q own L A (l++b::r) R Q cn (.slice (some ⟨bk,off,none⟩) n c2) (.int .i64 ((t+1:Nat):Int)) w'):=Lib.hid fun w5 L4 h4 n5 ha5 hw5=>by
            obtain ⟨rr,OQ,k1,k2,k3,k4⟩:=n5.queue hq13
            have hk64:I64 fr:=by
              have:=key_le ⟨hs.good,hs.pl,hs.pps⟩ ho
              rw [←hfr];exact ⟨by omega,by omega⟩
            refine (qp_fill w5 k1 hk64).mono fun e w' kk=> ?_
            obtain ⟨e1,e2⟩:=QAft.of (fun k=> .inl) (Wrt.refl _ _ w5) kk
            rw [←hfr,←hkey,up_fill] at e2
            obtain ⟨O',n',kO,kU⟩:=k4 w' _ e2
            have hagg:=hag.trans h4
            refine ⟨⟨_,e1⟩,t+1,_,O',L4,by rw [HN.out];exact htn,rfl,n',hg2,hagg,by rw [←hgo2];exact hgo,ha5.upd kU fun x hx h9=>(hw5 x hx).1 (.inl h9),fun x hx=>⟨fun h9=> ?_,Nat.lt_of_lt_of_le (hw5 x hx).2 kU.size⟩⟩
            rcases h9 with h9|h9
            · rcases kO x h9 with h9|h9
              · exact (hw5 x hx).1 (.inl h9)
              · have:=(hw5 x hx).2;omega
            · exact (hw5 x hx).1 (.inr h9)
          rw [show ((t+1:Nat):Int)=(t:Int)+1 by omega] at FL
          obtain ⟨op,hop⟩: ∃op,o.op=op:=⟨_,rfl⟩
          obtain ⟨pp,hpp⟩: ∃pp,o.pp=pp:=⟨_,rfl⟩
          rw [hop,hpp] at D0
          rw [hop,hfr] at PG'
          rw [hpp] at AL'
          rw [hfr] at d0
          clear AL hn1' hg1 hag hgo har haw hy hym hy64 hk ho hcl hkey hbB hs hXm hT hdrop hfk ha4 hnw hgo2 hop hpp hfr HPG hb1 hse hg2
          go_wp2_with fail
          refine PG'.out.mono ?_;rintro e w4 ⟨rfl,hb⟩
          have B4:=Lib.hid hb
          have d1:=D0.out w4 hb
          clear hb
          go_wp2_with fail
          refine (AL'.out w4 B4.out).mono ?_;rintro e w5 ⟨rfl,L5,h5,hn5,ha5,hw5⟩
          have K5:=Lib.hid (FL.out w5 L5 h5 hn5 ha5 hw5)
          clear h5 hn5 ha5 hw5 d1
          go_wp2_with fail
          refine K5.out.mono ?_;rintro e w6 ⟨⟨x6,rfl⟩,hnx⟩
          have NX:=Lib.hid hnx
          clear hnx
          go_wp2
          go_roundw
          case rel=>exact NX.out
          case measure=>simp [intOf];omega
      · obtain rfl:t=n:=by omega
        have t2:decide ((t:Int)<(t:Int))=false:=decide_eq_false (by omega)
        have e9:(Q cn).R.drop t= []:=List.drop_eq_nil_of_le (by rw [HN.out];exact Nat.le_refl _)
        rw [e9,HE.out] at hgo
        have hgo2:E=(hsOf B Q1,0,4, []):=hgo.symm.trans rfl
        have FIN:Hid (Turned C HpS w h O id p g q own L B R wr E.1 A fun L'=>Agree L L' E.2.2.2):=Lib.hid (by
          rw [hgo2]
          exact turned_of (w1:=w) (td:=⟨O1,own,B,hn1',rfl,fun k hk=> .inl hk⟩) (fun k hk=> .inl hk) (Nat.le_refl _) hg1 hag.1 hag)
        have hv1:E.2.1=0∧E.2.2.1=4:=by rw [hgo2];exact ⟨rfl,rfl⟩
        have HV:=Lib.hid hv1
        clear hn1' hg1 hag hgo har haw hgo2 hv1 e9
        go_wp2
        go_ret2
        rw [HV.out.1,HV.out.2]
        exact ⟨rfl,FIN.out⟩
  · rw [decide_eq_false hin] at IC
    have hE2:E=(hsOf B Q,0,2, []):=by
      rw [←hE]
      unfold localH
      rw [if_pos (by omega)]
    have FIN:Hid (∀w2,Below w.heap.size w w2→Turned C HpS w h O id p g q own L B R w2 E.1 A fun L'=>Agree L L' E.2.2.2):=Lib.hid fun w2 hb=>by
      rw [hE2]
      exact turned_still hw z hb rfl rfl (Agree.refl _ _)
    have hv1:E.2.1=0∧E.2.2.1=2:=by rw [hE2];exact ⟨rfl,rfl⟩
    rw [hv1.1,hv1.2]
    clear z hE hE2 hv1 hin hc
    go_enter Tryz.func175,Tryz.ntmps175
    go_wp2_with fail
    refine IC.out.mono ?_;rintro e w1 ⟨rfl,hb⟩
    have F1:=Lib.hid (FIN.out w1 hb)
    clear hb
    go_wp2
    go_ret2
    exact ⟨rfl,F1.out⟩
end
end Go.Proofs.YtippfeplogkaiaaGreatDoor
namespace Go.Proofs.YtippfeplogkaiaaGreatDoor
open Go.RowKit ListMath PageMath GeoMath SegMath ClassMath HeapMath QueueMath ArenaMath
set_option linter.unusedVariables false
set_option maxRecDepth 100000
abbrev planV (c sl sg:Int) (us:Nat):Value:= .agg #[.int .i64 c, .int .i64 sl, .int .i64 sg, .int .u64 (us:Int)]
theorem bad_alone {sl:Int}: ¬badF (-1) sl↔1≤sl∧sl≤15:=by unfold badF;omega
theorem bad_class {c sl:Int} (h:c≠ -1): ¬badF c sl↔0≤c∧c<12:=by unfold badF;omega
set_option maxHeartbeats 1000000 in
theorem may_be {w:World} (LY:Lay w) {c sl sg:Int} {us:Nat} (hc:I64B c) (hs:I64B sl):
    Calls Tryz.prog 220 #[planV c sl sg us] w fun e w'=>e= .returned (.bool (decide (¬badF c sl)))∧Below w.heap.size w w':=by
  obtain ⟨E,hE⟩: ∃E,decide (¬badF c sl)=E:=⟨_,rfl⟩
  rw [hE]
  obtain ⟨W1,hW1⟩: ∃W1,w.alloc (.cells #[.int .i64 c, .int .i64 sl, .int .i64 sg, .int .u64 (us:Int)] 92)=W1:=⟨_,rfl⟩
  obtain ⟨bp,hbp⟩: ∃bp,w.heap.size=bp:=⟨_,rfl⟩
  have hb1:Below w.heap.size w W1:=by rw [←hW1];exact (Below.refl _ _).alloc (Nat.le_refl _) _
  have bB:Blk W1 bp 92 #[.int .i64 c, .int .i64 sl, .int .i64 sg, .int .u64 (us:Int)]:=by rw [←hW1,←hbp];exact Blk.new w _ _
  have c0:W1.cell? ⟨bp,0,none⟩=some (.int .i64 c):=bB.cell 0
  have c1:W1.cell? ⟨bp,1,none⟩=some (.int .i64 sl):=bB.cell 1
  have BB:=Lib.hid hb1
  by_cases h1:c= -1
  · subst h1
    have t1:((-1:Int)== -1)=true:=by decide
    by_cases h2:1≤sl
    · have t2:decide (sl≥1)=true:=decide_eq_true h2
      have t2':decide (1≤sl)=true:=decide_eq_true h2
      by_cases h3:sl≤15
      · have t3:decide (sl≤15)=true:=decide_eq_true h3
        obtain rfl:E=true:=by rw [←hE];exact decide_eq_true (bad_alone.2 ⟨h2,h3⟩)
        clear LY hE hb1 bB hc hs
        go_enter Tryz.func220,Tryz.ntmps220
        go_wp2
        go_ret
        first|exact ⟨rfl,BB.out⟩|(rw [hbp] at BB;exact ⟨rfl,BB.out⟩)
      · have t3:decide (sl≤15)=false:=decide_eq_false h3
        obtain rfl:E=false:=by rw [←hE];exact decide_eq_false fun x=>h3 (bad_alone.1 x).2
        clear LY hE hb1 bB hc hs
        go_enter Tryz.func220,Tryz.ntmps220
        go_wp2
        go_ret
        first|exact ⟨rfl,BB.out⟩|(rw [hbp] at BB;exact ⟨rfl,BB.out⟩)
    · have t2:decide (sl≥1)=false:=decide_eq_false h2
      have t2':decide (1≤sl)=false:=decide_eq_false h2
      obtain rfl:E=false:=by rw [←hE];exact decide_eq_false fun x=>h2 (bad_alone.1 x).1
      clear LY hE hb1 bB hc hs
      go_enter Tryz.func220,Tryz.ntmps220
      go_wp2
      go_ret
      first|exact ⟨rfl,BB.out⟩|(rw [hbp] at BB;exact ⟨rfl,BB.out⟩)
  · have t1:(c== -1)=false:=by rw [beq_eq_false_iff_ne];exact h1
    have IC:=Lib.hid (is_class (LY.below hb1) hc)
    have eE:decide (0≤c∧c<12)=E:=by rw [←hE];exact decide_eq_decide.2 (bad_class h1).symm
    rw [eE] at IC
    clear LY hE hb1 bB hc hs eE h1
    go_enter Tryz.func220,Tryz.ntmps220
    go_wp2_with fail
    refine IC.out.mono ?_;rintro e w2 ⟨rfl,hb⟩
    have B2:=Lib.hid (below_then BB.out (by have:=BB.out.size;omega) hb)
    clear hb c0 c1
    go_wp2
    go_ret
    first|exact ⟨rfl,B2.out⟩|(rw [hbp] at B2;exact ⟨rfl,B2.out⟩)
def CutPost {w0:World} (C:SgC w0) (w:World) (sp p g:Nat) (I:Nat→Prop) (k:Addr) (L:List Nat) (X:SG) (c sl:Int) (e:Ending) (w':World):Prop:=
  match MarkMath.low X.K (wdOf c sl.toNat) with
  |none=>e= .returned (.tuple #[.pointer none, .int .i64 4])∧Below w.heap.size w w'
  |some a=> ∃op pp I',e= .returned (.tuple #[.pointer (some ⟨op,0,none⟩), .int .i64 0])∧Sg C.Int' w' sp p g I' k L (X.add op pp c a (wdOf c sl.toNat) (nOf c) (szOf c sl.toNat))∧w.heap.size≤op∧w.heap.size≤pp∧(∀b,I' b→I b∨w.heap.size≤b)∧Upd I w w'
set_option maxHeartbeats 1000000 in
theorem cutp_any {w0 w:World} {C:SgC w0} (hw:Below w0.heap.size w0 w) {sp p g:Nat} {I:Nat→Prop} {k:Addr} {L:List Nat} {X:SG} (h:Sg C.Int' w sp p g I k L X) {c sl sg:Int} {us:Nat} (hb: ¬badF c sl):
    Calls Tryz.prog 221 #[.pointer (some ⟨sp,0,none⟩),planV c sl sg us] w (CutPost C w sp p g I k L X c sl):=by
  obtain ⟨W1,hW1⟩: ∃W1,w.alloc (.cells #[.int .i64 c, .int .i64 sl, .int .i64 sg, .int .u64 (us:Int)] 92)=W1:=⟨_,rfl⟩
  obtain ⟨bp,hbp⟩: ∃bp,w.heap.size=bp:=⟨_,rfl⟩
  have hb1:Below w.heap.size w W1:=by rw [←hW1];exact (Below.refl _ _).alloc (Nat.le_refl _) _
  have bB:Blk W1 bp 92 #[.int .i64 c, .int .i64 sl, .int .i64 sg, .int .u64 (us:Int)]:=by rw [←hW1,←hbp];exact Blk.new w _ _
  have c0:W1.cell? ⟨bp,0,none⟩=some (.int .i64 c):=bB.cell 0
  have c1:W1.cell? ⟨bp,1,none⟩=some (.int .i64 sl):=bB.cell 1
  have h1:=h.grew hb1
  have hw1:=below_then hw hw.size hb1
  by_cases hc:c= -1
  · subst hc
    obtain ⟨s1,s2⟩:=bad_alone.1 hb
    obtain ⟨s,rfl⟩:=Int.eq_ofNat_of_zero_le (show 0≤sl by omega)
    have t1:((-1:Int)== -1)=true:=by decide
    have CT:Hid (Calls Tryz.prog 253 #[.pointer (some ⟨sp,0,none⟩), .int .i64 (s:Int)] W1 fun e w'=>(∃x y,e= .returned (.tuple #[x, .int .i64 y]))∧CutPost C w sp p g I k L X (-1) (s:Int) e w'):=Lib.hid (by
      unfold CutPost
      have e1:wdOf (-1) (s:Int).toNat=s:=by unfold wdOf;rw [if_pos (by decide),Int.toNat_natCast]
      have e2:nOf (-1)=1:=rfl
      have e3:szOf (-1) (s:Int).toNat=s*1024:=by unfold szOf;rw [if_pos (by decide),Int.toNat_natCast]
      rw [e1,e2,e3]
      cases hl:MarkMath.low X.K s with
      |none=>exact (C.big_full W1 hw1 h1 (by omega) (by omega) hl).mono fun e w' ⟨k1,k2⟩=>⟨⟨_,_,k1⟩,k1,below_then hb1 hb1.size k2⟩
      |some a=>exact (C.big W1 hw1 h1 (by omega) (by omega) hl).mono fun e w' ⟨op,pp,I',k1,k2,k3,k4,k5,k6⟩=>⟨⟨_,_,k1⟩,op,pp,I',k1,k2,Nat.le_trans hb1.size k3,Nat.le_trans hb1.size k4,fun b hb=>(k5 b hb).imp (fun x=>x) fun x=>Nat.le_trans hb1.size x,((updFalse_of hb1).mono fun _ x=>x.elim).trans k6⟩)
    clear h hw h1 hw1 bB hb1 hb s1 s2
    go_enter Tryz.func221,Tryz.ntmps221
    go_wp2_with fail
    refine CT.out.mono ?_;rintro e w2 ⟨⟨x,y,rfl⟩,hk⟩
    have K:=Lib.hid hk
    clear hk
    go_wp2
    go_ret2
    exact K.out
  · obtain ⟨s1,s2⟩:=(bad_class hc).1 hb
    obtain ⟨n,rfl⟩:=Int.eq_ofNat_of_zero_le s1
    have t1:((n:Int)== -1)=false:=by rw [beq_eq_false_iff_ne];omega
    have CT:Hid (Calls Tryz.prog 254 #[.pointer (some ⟨sp,0,none⟩), .int .i64 (n:Int)] W1 fun e w'=>(∃x y,e= .returned (.tuple #[x, .int .i64 y]))∧CutPost C w sp p g I k L X (n:Int) sl e w'):=Lib.hid (by
      unfold CutPost
      have e1:wdOf (n:Int) sl.toNat=slicesAt n:=by unfold wdOf;rw [if_neg (by omega),Int.toNat_natCast]
      have e2:nOf (n:Int)=blocksAt n:=by unfold nOf;rw [if_neg (by omega),Int.toNat_natCast]
      have e3:szOf (n:Int) sl.toNat=sizeAt n:=by unfold szOf;rw [if_neg (by omega),Int.toNat_natCast]
      rw [e1,e2,e3]
      cases hl:MarkMath.low X.K (slicesAt n) with
      |none=>exact (C.page_full W1 hw1 h1 (by omega) hl).mono fun e w' ⟨k1,k2⟩=>⟨⟨_,_,k1⟩,k1,below_then hb1 hb1.size k2⟩
      |some a=>exact (C.page W1 hw1 h1 (by omega) hl).mono fun e w' ⟨op,pp,I',k1,k2,k3,k4,k5,k6⟩=>⟨⟨_,_,k1⟩,op,pp,I',k1,k2,Nat.le_trans hb1.size k3,Nat.le_trans hb1.size k4,fun b hb=>(k5 b hb).imp (fun x=>x) fun x=>Nat.le_trans hb1.size x,((updFalse_of hb1).mono fun _ x=>x.elim).trans k6⟩)
    clear h hw h1 hw1 bB hb1 hb s1 s2 hc
    go_enter Tryz.func221,Tryz.ntmps221
    go_wp2_with fail
    refine CT.out.mono ?_;rintro e w2 ⟨⟨x,y,rfl⟩,hk⟩
    have K:=Lib.hid hk
    clear hk
    go_wp2
    go_ret2
    exact K.out
section
variable {w0 ws w w':World} {C:SgC w0} {h id p g q:Nat} {O own T:Nat→Prop} {L L':List Nat} {A A':St} {B R l r:List SB} {b:SB} {o:OwR} {Q:Nat→QR}
theorem put_page (n:Hn C ws T w h O id p g q own L A B R Q) (hb:b∈B) (ho:o∈b.X.L) (hlen: ∀i,i<13→(Q i).all.length≤2000):
    Calls Tryz.prog 222 #[.pointer (some ⟨h,qi o.cls,none⟩), .pointer (some ⟨o.op,0,none⟩)] w fun e w'=>e= .returned (.tuple #[])∧ ∃O',Hn C ws T w' h O' id p g q own L A B R (setQi Q (qi o.cls) (putE (Q (qi o.cls)) (HeapMath.keyOf b.X o)))∧(∀k,O' k→O k∨w.heap.size≤k)∧Upd O w w':=by
  have hs:=n.z.sg hb
  have hc:=cls_at hs.good ho
  have hq:=qi_13 hc.1 hc.2
  obtain ⟨rr,OQ,k1,k2,k3,k4⟩:=n.queue hq
  refine (put_any k1 (hlen _ hq) (key_le ⟨hs.good,hs.pl,hs.pps⟩ ho) fun w' u=>num_page (n.side k2 k3 u hb) ho).mono fun e w' ⟨e1,e2⟩=>⟨e1,k4 w' _ e2⟩
theorem roomB_skip {wd t a:Nat} {b:SB} (hall: ∀x∈B.take t,MarkMath.low x.X.K wd=none) (hb:B[t]? =some b) (ha:MarkMath.low b.X.K wd=some a):roomH (hsOf B Q) wd=some (b.X,a):=by
  unfold roomH hsOf
  show (B.map fun b=>b.X).findSome? _=_
  rw [split_at hb,List.map_append,List.map_cons,List.findSome?_append]
  rw [List.findSome?_eq_none_iff.2 fun x hx=>by
    obtain ⟨y,hy,rfl⟩:=List.mem_map.1 hx
    rw [hall y hy];rfl]
  rw [List.findSome?_cons,ha];rfl
theorem roomB_none {wd:Nat} (hall: ∀x∈B,MarkMath.low x.X.K wd=none):roomH (hsOf B Q) wd=none:=List.findSome?_eq_none_iff.2 fun x hx=>by
  obtain ⟨y,hy,rfl⟩:=List.mem_map.1 hx
  rw [hall y hy];rfl
set_option maxHeartbeats 1000000 in
theorem hp_fresh_bad (LY:Lay w0) (hw:Below w0.heap.size w0 w) {c sl sg:Int} {us:Nat} (hc:I64B c) (hs:I64B sl) (hb:badF c sl):
    Calls Tryz.prog 178 #[.pointer (some ⟨h,0,none⟩),planV c sl sg us] w fun e w'=>e= .returned (.tuple #[.int .u64 0, .int .i64 2])∧Below w.heap.size w w':=by
  obtain ⟨W1,hW1⟩: ∃W1,w.alloc (.cells #[.int .i64 c, .int .i64 sl, .int .i64 sg, .int .u64 (us:Int)] 92)=W1:=⟨_,rfl⟩
  obtain ⟨bp,hbp⟩: ∃bp,w.heap.size=bp:=⟨_,rfl⟩
  have hb1:Below w.heap.size w W1:=by rw [←hW1];exact (Below.refl _ _).alloc (Nat.le_refl _) _
  have bB:Blk W1 bp 92 #[.int .i64 c, .int .i64 sl, .int .i64 sg, .int .u64 (us:Int)]:=by rw [←hW1,←hbp];exact Blk.new w _ _
  have c0:W1.cell? ⟨bp,0,none⟩=some (.int .i64 c):=bB.cell 0
  have c1:W1.cell? ⟨bp,1,none⟩=some (.int .i64 sl):=bB.cell 1
  have c2:W1.cell? ⟨bp,2,none⟩=some (.int .i64 sg):=bB.cell 2
  have c3:W1.cell? ⟨bp,3,none⟩=some (.int .u64 (us:Int)):=bB.cell 3
  have MB:=Lib.hid (may_be (sg:=sg) (us:=us) (LY.below (below_then hw hw.size hb1)) hc hs)
  rw [decide_eq_false (show ¬ ¬badF c sl from fun x=>x hb)] at MB
  have BB:=Lib.hid (fun w2 (h:Below W1.heap.size W1 w2)=>below_then hb1 hb1.size h)
  clear LY hw hb1 bB hc hs hb
  go_enter Tryz.func178,Tryz.ntmps178
  go_wp2_with fail
  refine MB.out.mono ?_;rintro e w2 ⟨rfl,hb⟩
  have B2:=Lib.hid (BB.out w2 hb)
  clear hb c0 c1 c2 c3
  go_wp2
  go_ret2
  first|exact ⟨rfl,B2.out⟩|(rw [hbp] at B2;exact ⟨rfl,B2.out⟩)
def FrPost {w0:World} (C:SgC w0) (w:World) (h:Nat) (O:Nat→Prop) (id p g q:Nat) (own:Nat→Prop) (L:List Nat) (A:St) (B R:List SB) (Q:Nat→QR) (c sl:Int) (e:Ending) (w':World):Prop:=
  match roomH (hsOf B Q) (wdOf c sl.toNat) with
  |none=>e= .returned (.tuple #[.int .u64 0, .int .i64 4])∧Below w.heap.size w w'
  |some (X,a)=> ∃op pp,e= .returned (.tuple #[.int .u64 (fromS X.pl a:Int), .int .i64 0])∧w.heap.size≤op∧w.heap.size≤pp∧Turned C HpS w h O id p g q own L B R w' (freshH (hsOf B Q) X op pp c sl.toNat a) A fun L'=>Agree L L' (newsOf (newPG (fromS X.pl a) (szOf c sl.toNat) (nOf c)))
end
end Go.Proofs.YtippfeplogkaiaaGreatDoor
namespace Go.Proofs.YtippfeplogkaiaaGreatDoor
open Go.RowKit ListMath PageMath GeoMath SegMath ClassMath HeapMath QueueMath ArenaMath
set_option linter.unusedVariables false
set_option maxRecDepth 100000
section
variable {w0 ws w w':World} {C:SgC w0} {h id p g q:Nat} {O own T:Nat→Prop} {L L':List Nat} {A A':St} {B R l r:List SB} {b:SB} {o:OwR} {Q:Nat→QR}
abbrev moreP (b:SB) (I':Nat→Prop) (op pp:Nat) (c:Int) (a wd n s:Nat):SB:={b with I:=I',X:=b.X.add op pp c a wd n s}
theorem BP_more {I':Nat→Prop} {op pp a wd n s nb x:Nat} {c:Int} (hI: ∀k,I' k→b.I k∨nb≤k) (h1:nb≤op) (h2:nb≤pp) (hx:BP (moreP b I' op pp c a wd n s) x):BP b x∨nb≤x:=by
  rcases hx with hx|⟨u,hu,hx⟩
  · exact (hI x hx).imp .inl fun x=>x
  · rcases insR_mem.1 (show u∈insR b.X.L _ from hu) with rfl|⟨hu,_⟩
    · right
      rcases hx with rfl|rfl
      · exact h1
      · exact h2
    · exact .inl (.inr ⟨u,hu,hx⟩)
theorem fresh_tail (LY:Lay w0) {wr w5:World} {c sl:Int} {a wd op pp:Nat} {I':Nat→Prop} (nr:Hn C w (HO p g own O (l++b::r)) wr h O id p g q own L A (l++b::r) R Q) (gd:GoodH (hsOf (l++b::r) Q)) (hb: ¬badF c sl) (hwd:wdOf c sl.toNat=wd) (hrm:roomH (hsOf (l++b::r) Q) wd=some (b.X,a)) (h1:w.heap.size≤wr.heap.size)
    (h5:Sg C.Int' w5 b.sp p g I' b.c L (b.X.add op pp c a wd (nOf c) (szOf c sl.toNat))) (ho:wr.heap.size≤op) (hpp:wr.heap.size≤pp) (hI: ∀k,I' k→b.I k∨wr.heap.size≤k) (u5:Upd b.I wr w5):
    (∀w9,Below w5.heap.size w5 w9→Calls Tryz.prog 109 #[.pointer (some ⟨h,0,none⟩), .int .i64 c] w9 fun e w'=>e= .returned (.pointer (some ⟨h,qi c,none⟩))∧Below w5.heap.size w5 w')∧
    (∀w9,Below w5.heap.size w5 w9→w9.cell? ⟨op,1,none⟩=some (.int .i64 c))∧
    ∀ w9,Below w5.heap.size w5 w9→Calls Tryz.prog 222 #[.pointer (some ⟨h,qi c,none⟩), .pointer (some ⟨op,0,none⟩)] w9 fun e w'=>e= .returned (.tuple #[])∧(w'.cell? ⟨op,0,none⟩=some (.pointer (some ⟨pp,0,none⟩))∧w'.cell? ⟨op,1,none⟩=some (.int .i64 c))∧
      Calls Tryz.prog 217 #[.pointer (some ⟨pp,0,none⟩)] w' fun e2 w2=>e2= .returned (.tuple #[.int .u64 (fromS b.X.pl a:Int), .int .i64 0])∧FrPost C w h O id p g q own L A (l++b::r) R Q c sl e2 w2:=by
  have hbm:b∈l++b::r:=List.mem_append_right _ (List.mem_cons_self ..)
  have hXm:b.X∈(hsOf (l++b::r) Q).B:=List.mem_map.2 ⟨b,hbm,rfl⟩
  have hb': ¬badF c (sl.toNat:Int):=by unfold badF at hb⊢;omega
  have hl:=(roomH_some hrm).2
  obtain ⟨p1,p2,p3,p4⟩:=planned hb'
  rw [hwd] at p1 p2 p4
  have hlow:=MarkMath.low_some p1 hl
  have hp: ∀o∈b.X.L,o.pp≠pp:=fun o ho2 e=>by
    have:=((nr.z.sg hbm).pg o ho2).1.lt
    omega
  have hadd:=gd.add hXm p1 hlow.1 (p4 op pp a (fromS b.X.pl a)) hp
  have hcr: -1≤c∧c≤11:=by unfold badF at hb;omega
  have hbp:=fun x hx=>BP_more (b:=b) (op:=op) (pp:=pp) (c:=c) (a:=a) (wd:=wd) (n:=nOf c) (s:=szOf c sl.toNat) (x:=x) hI ho hpp hx
  have n5:Hn C w (HO p g own O (l++b::r)) w5 h O id p g q own L A (l++moreP b I' op pp c a wd (nOf c) (szOf c sl.toNat)::r) R Q:=
    nr.seg (b':=moreP b I' op pp c a wd (nOf c) (szOf c sl.toNat)) (Y:= []) h5 rfl rfl u5 (fun x hx=> .inl (.inl hx)) (Agree.refl _ _) (fun y hy=>by cases hy) hbp fun x hx=> .inl (.inr (.inr (.inr (.inr ⟨b,hbm, .inl hx⟩))))
  have hbm1:moreP b I' op pp c a wd (nOf c) (szOf c sl.toNat)∈l++moreP b I' op pp c a wd (nOf c) (szOf c sl.toNat)::r:=List.mem_append_right _ (List.mem_cons_self ..)
  have ho1:(⟨op,pp,c,a,wd,newPG (fromS b.X.pl a) (szOf c sl.toNat) (nOf c)⟩:OwR)∈(moreP b I' op pp c a wd (nOf c) (szOf c sl.toNat)).X.L:=insR_mem.2 (.inl rfl)
  have hown: ∀w9,Below w5.heap.size w5 w9→Blk w9 op 187 (ownA ⟨op,pp,c,a,wd,newPG (fromS b.X.pl a) (szOf c sl.toNat) (nOf c)⟩):=fun w9 hb9=>((n5.z.sg hbm1).grew hb9).own _ ho1
  refine ⟨fun w9 hb9=>(of_any (LY.below (below_then n5.b n5.b.size hb9)) h hcr.1 hcr.2).mono fun e w' k=>⟨k.1,below_then hb9 hb9.size k.2⟩,fun w9 hb9=>(hown w9 hb9).cell 1,fun w9 hb9=> ?_⟩
  refine (put_page (n5.grew hb9) hbm1 ho1 fun i hi=>Nat.le_trans (keys_of gd i).2 (by decide)).mono fun e w' ⟨e1,O',n6,_,_⟩=> ?_
  have hob:=(n6.z.sg hbm1).own _ ho1
  refine ⟨e1,⟨hob.cell 0,hob.cell 1⟩, ?_⟩
  have hk:putE (Q (qi c)) (HeapMath.keyOf (moreP b I' op pp c a wd (nOf c) (szOf c sl.toNat)).X ⟨op,pp,c,a,wd,newPG (fromS b.X.pl a) (szOf c sl.toNat) (nOf c)⟩)=(pushE (Q (qi c)) [keyAt b.X.pl a]).1:=put_new hadd.2
  have hal:allocP (newPG (fromS b.X.pl a) (szOf c sl.toNat) (nOf c))=(PageMath.fresh (fromS b.X.pl a) (szOf c sl.toNat) (nOf c) 1,fromS b.X.pl a,0):=by
    rw [←fresh_zero];exact fresh_first p3
  have AL:=alloc_any n6 ho1 fun k hk=>by
    rcases EO_turn hbp hk with x|x
    · exact .inl (.inr x)
    · exact .inr (by omega)
  change Calls _ _ #[.pointer (some ⟨pp,0,none⟩)] _ fun e w'=>e= .returned (.tuple #[.int .u64 ((allocP (newPG (fromS b.X.pl a) (szOf c sl.toNat) (nOf c))).2.1:Int), .int .i64 (allocP (newPG (fromS b.X.pl a) (szOf c sl.toNat) (nOf c))).2.2])∧ ∃L',Agree L L' (newsOf (newPG (fromS b.X.pl a) (szOf c sl.toNat) (nOf c)))∧Hn C w (HO p g own O (l++b::r)) w' h O' id p g q own L' A (l++turnP (moreP b I' op pp c a wd (nOf c) (szOf c sl.toNat)) ⟨op,pp,c,a,wd,newPG (fromS b.X.pl a) (szOf c sl.toNat) (nOf c)⟩ (allocP (newPG (fromS b.X.pl a) (szOf c sl.toNat) (nOf c))).1::r) R (setQi Q (qi c) (putE (Q (qi c)) (HeapMath.keyOf (moreP b I' op pp c a wd (nOf c) (szOf c sl.toNat)).X ⟨op,pp,c,a,wd,newPG (fromS b.X.pl a) (szOf c sl.toNat) (nOf c)⟩)))∧_ at AL
  rw [hal,hk] at AL
  refine AL.mono fun e2 w2 ⟨k1,L2,k2,k3,_⟩=>⟨k1, ?_⟩
  unfold FrPost
  rw [hwd,hrm]
  refine ⟨op,pp,k1,by omega,by omega,turned_of (w1:=w) (td:=⟨O',own,_,k3, ?_,fun k hk=> .inl hk⟩) (fun k hk=> ?_) (Nat.le_refl _) ?_ k2.1 k2⟩
  · have e1:=map_setB (l:=l) (b:=b) (r:=r) (Q:=Q) (X':=freshX b.X op pp c sl.toNat a) nr.z.pls rfl
    show _=((hsOf (l++b::r) Q).setB (freshX b.X op pp c sl.toNat a)).B
    rw [e1,List.map_append,List.map_cons]
    unfold freshX
    rw [hwd]
  · rcases EO_turn (b':=turnP (moreP b I' op pp c a wd (nOf c) (szOf c sl.toNat)) ⟨op,pp,c,a,wd,newPG (fromS b.X.pl a) (szOf c sl.toNat) (nOf c)⟩ (PageMath.fresh (fromS b.X.pl a) (szOf c sl.toNat) (nOf c) 1)) (fun x hx=>hbp x (BP_turn.1 hx)) hk with x|x
    · exact .inl x
    · exact .inr (by omega)
  · exact good_fresh gd hXm hb' (by rw [hwd];exact hl) hp
set_option maxHeartbeats 8000000 in
theorem hp_fresh_ok (LY:Lay w0) (hw:Below w0.heap.size w0 w) {c sl sg:Int} {us:Nat} (z:Hz C HpS w h O id p g q own L A B R Q) (hc:I64B c) (hs:I64B sl) (hb: ¬badF c sl):
    Calls Tryz.prog 178 #[.pointer (some ⟨h,0,none⟩),planV c sl sg us] w (FrPost C w h O id p g q own L A B R Q c sl):=by
  obtain ⟨W1,hW1⟩: ∃W1,w.alloc (.cells #[.int .i64 c, .int .i64 sl, .int .i64 sg, .int .u64 (us:Int)] 92)=W1:=⟨_,rfl⟩
  obtain ⟨bp,hbp⟩: ∃bp,w.heap.size=bp:=⟨_,rfl⟩
  have hb1:Below w.heap.size w W1:=by rw [←hW1];exact (Below.refl _ _).alloc (Nat.le_refl _) _
  have bB:Blk W1 bp 92 #[.int .i64 c, .int .i64 sl, .int .i64 sg, .int .u64 (us:Int)]:=by rw [←hW1,←hbp];exact Blk.new w _ _
  have c0:W1.cell? ⟨bp,0,none⟩=some (.int .i64 c):=bB.cell 0
  have c1:W1.cell? ⟨bp,1,none⟩=some (.int .i64 sl):=bB.cell 1
  have c2:W1.cell? ⟨bp,2,none⟩=some (.int .i64 sg):=bB.cell 2
  have c3:W1.cell? ⟨bp,3,none⟩=some (.int .u64 (us:Int)):=bB.cell 3
  have CC:=Lib.hid (And.intro c0 (And.intro c1 (And.intro c2 c3)))
  have hw1:=below_then hw hw.size hb1
  have MB:=Lib.hid (may_be (sg:=sg) (us:=us) (LY.below hw1) hc hs)
  rw [decide_eq_true hb] at MB
  have n1:Hn C w (HO p g own O B) W1 h O id p g q own L A B R Q:=(Hn.start (T:=HO p g own O B) hw (Hr.of z) fun k hk=> .inl hk).grew hb1
  obtain ⟨av,cap,c16,hc1,hc2,hrow,-⟩:=n1.z.row
  obtain ⟨n,hn⟩: ∃n,B.length=n:=⟨_,rfl⟩
  rw [hn] at c16 hc1
  have HN:=Lib.hid hn;have ROW:=Lib.hid hrow;have N1:=Lib.hid n1;have HB1:=Lib.hid hb1
  have C16:=Lib.hid (fun w2 (hb:Below W1.heap.size W1 w2)=>cell_then c16 hb)
  obtain ⟨wd,hwd⟩: ∃wd,wdOf c sl.toNat=wd:=⟨_,rfl⟩
  have I0:Hid (∀w2,Below W1.heap.size W1 w2→FiR W1 (fun b=>MarkMath.low b.X.K wd=none) B (.int .i64 0) w2):=Lib.hid fun w2 hb=>⟨0,Nat.zero_le _,rfl,(fun x hx=>by simp at hx),hb⟩
  have HWD:=Lib.hid hwd;have HBAD:=Lib.hid hb;have LYY:=Lib.hid LY;have GZ:=Lib.hid z.good
  clear LY hw hw1 bB hc hs hb z n1 hrow hn hwd c16 hb1
  go_enter Tryz.func178,Tryz.ntmps178
  go_wp2_with fail
  refine MB.out.mono ?_;rintro e w2 ⟨rfl,hb⟩
  have d16:=C16.out w2 hb
  have I1:=Lib.hid (I0.out w2 hb)
  clear hb c0 c1 c2 c3 I0
  go_wp2
  clear d16
  go_loopw [20] (fun i wr=>FiR W1 (fun b=>MarkMath.low b.X.K wd=none) B i wr) (fun i _=>n-(intOf i).toNat)
  case atStart=>exact I1.out
  case round=>
    clear I1
    obtain ⟨t,ht,rfl,hall,hb⟩:=hrel
    rw [HN.out] at ht
    have HALL:=Lib.hid hall;have BB:=Lib.hid hb
    by_cases htn:t<n
    · obtain ⟨b,hbt⟩: ∃b,B[t]? =some b:=⟨_,List.getElem?_eq_getElem (by rw [HN.out];exact htn)⟩
      obtain ⟨bk,off,rfl,d0⟩:=ROW.out wr hb t b hbt
      have e0:=cell_then CC.out.1 hb
      have e1:=cell_then CC.out.2.1 hb
      have e2:=cell_then CC.out.2.2.1 hb
      have e3:=cell_then CC.out.2.2.2 hb
      have t2:decide ((t:Int)<(n:Int))=true:=decide_eq_true (by omega)
      have t2':decide (t<n)=true:=decide_eq_true htn
      have q3:(0:Int)≤(t:Int):=by omega
      have q4:(t:Int)<(n:Int):=by omega
      have hbB:=List.mem_of_getElem? hbt
      have nr:=N1.out.grew hb
      have K:=Lib.hid (cutp_any (sg:=sg) (us:=us) nr.b (nr.z.sg hbB) HBAD.out)
      unfold CutPost at K
      rw [HWD.out] at K
      have HBT:=Lib.hid hbt
      obtain ⟨sp,hsp⟩: ∃sp,b.sp=sp:=⟨_,rfl⟩
      rw [hsp] at d0 K
      cases hl:MarkMath.low b.X.K wd with
      | none=>
        rw [hl] at K
        have HL:=Lib.hid hl
        clear hall hb hbt hl nr hbB hsp
        go_wp2_with fail
        refine K.out.mono ?_;rintro e w3 ⟨rfl,hb⟩
        have B3:=Lib.hid (below_then BB.out BB.out.size hb)
        clear hb e0 e1 e2 e3
        go_wp2
        go_roundw
        case rel=>exact ⟨t+1,by rw [HN.out];omega,by go_num,take_next HBT.out HALL.out HL.out,B3.out⟩
        case measure=>simp [intOf];omega
      | some a=>
        rw [hl] at K
        have hrm:roomH (hsOf B Q) wd=some (b.X,a):=roomB_skip hall hbt hl
        obtain ⟨l,r,rfl⟩:=List.append_of_mem hbB
        have hws:w.heap.size≤wr.heap.size:=Nat.le_trans HB1.out.size hb.size
        have TL:=Lib.hid (fun w5 op pp I'=>fresh_tail LYY.out nr GZ.out HBAD.out HWD.out hrm hws (w5:=w5) (op:=op) (pp:=pp) (I':=I'))
        rw [hsp] at TL
        clear hall hb hbt hl nr hbB hsp hrm hws
        go_wp2_with fail
        refine K.out.mono ?_;rintro e w5 ⟨op,pp,I',rfl,h5,h6,h7,h8,h9⟩
        obtain ⟨OF',D1',PU'⟩:=TL.out w5 op pp I' h5 h6 h7 h8 h9
        have OF:=Lib.hid OF';have D1:=Lib.hid D1';have PU:=Lib.hid PU'
        have B5:=Lib.hid (Below.refl w5.heap.size w5)
        clear h5 h6 h7 h8 h9 OF' D1' PU' e0 e1 e2 e3 K TL
        go_wp2
        go_region_held3 (fun w'=>w'.cell? ⟨op,1,none⟩=some (.int .i64 c)) (first|exact D1.out _ B5.out|exact D1.out _ B5.out.drew|exact C6.out.2)
          (first
            |(go_at_call 109;(first|(with_reducible refine (OF.out _ B5.out.drew).mono ?_)|(with_reducible refine (OF.out _ B5.out).mono ?_));rintro e w6 ⟨rfl,hb⟩;have B5:=Lib.hid hb;clear hb)
            |(go_at_call 222;(with_reducible refine (PU.out _ B5.out).mono ?_);rintro e w6 ⟨rfl,hc6,hal⟩;have C6:=Lib.hid hc6;have AL:=Lib.hid hal;clear hc6 hal))
        have d6:=C6.out.1
        go_wp2_with fail
        refine AL.out.mono ?_;rintro e w7 ⟨rfl,hp⟩
        have FP:=Lib.hid hp
        clear hp d6
        go_wp2
        go_ret2
        exact FP.out
    · obtain rfl:t=n:=by omega
      have t2:decide ((t:Int)<(t:Int))=false:=decide_eq_false (by omega)
      have e9:roomH (hsOf B Q) wd=none:=roomB_none fun x hx=>hall x (by rw [←HN.out,List.take_length];exact hx)
      have FIN:Hid (FrPost C w h O id p g q own L A B R Q c sl (.returned (.tuple #[.int .u64 0, .int .i64 4])) wr):=Lib.hid (by
        unfold FrPost
        rw [HWD.out,e9]
        exact ⟨rfl,below_then HB1.out HB1.out.size hb⟩)
      clear hall hb e9
      go_wp2
      go_ret2
      exact FIN.out
end
end Go.Proofs.YtippfeplogkaiaaGreatDoor
namespace Go.Proofs.YtippfeplogkaiaaGreatDoor
open Go.RowKit ListMath PageMath GeoMath SegMath ClassMath HeapMath QueueMath ArenaMath
set_option linter.unusedVariables false
set_option maxRecDepth 100000
theorem infoPS:(Tryz.prog.info? 114).map (fun i=>(i.zero,i.size,i.bytes))=some (some (.pointer none),1,8):=by kernel_rfl
def spP (s:Nat):Option Addr:=some ⟨s,0,none⟩
theorem reserve_1 (A:St) (hA:ArenaMath.Good A):(∃a:Nat,reserve A 1=((a:Int),0,A.give a 1)∧a+1≤A.S∧(∀x,x∈(A.give a 1).l↔x∈A.l∨x=(a,1))∧ ∀x∈A.l,x.1≠a)∨((reserve A 1).2.1≠0∧(reserve A 1).2.2.l=A.l∧(reserve A 1).2.2.S=A.S):=by
  unfold reserve
  by_cases h1:ArenaMath.far A 1
  · rw [if_pos h1];exact .inr ⟨(show (2:Int)≠0 by decide),rfl,rfl⟩
  · rw [if_neg h1]
    by_cases h2:A.T.headD false=true∨A.lim<ArenaMath.total A.l+(1:Int).toNat
    · rw [if_pos h2];exact .inr ⟨(show (4:Int)≠0 by decide),rfl,rfl⟩
    · rw [if_neg h2]
      cases hsp:ArenaMath.spot A.S A.l (1:Int).toNat with
      |none=>exact .inr ⟨(show (4:Int)≠0 by decide),rfl,rfl⟩
      | some a=>
        obtain ⟨s1,s2,_⟩:=ArenaMath.spot_some hsp
        refine .inl ⟨a,rfl,s1,fun x=>(ArenaMath.mem_put hA.ok s2 (by decide)).trans Or.comm,fun x hx e=> ?_⟩
        have h3:=(hA.ok.2 _ hx).1
        exact s2 _ hx ⟨by show a<x.1+x.2;omega,by show x.1<a+1;omega⟩
theorem pls_len {B:List SB} (hn:(B.map fun b=>b.X.pl).Nodup) (h: ∀b∈B,b.X.pl≤63):B.length≤64:=by
  have h1:((B.map fun b=>b.X.pl).map fun n:Nat=>(n:Int)).Nodup:=List.pairwise_map.2 (hn.imp fun {a b} hab e=>hab (by omega))
  have h2:=ints_bound 64 h1 fun x hx=>by
    obtain ⟨y,hy,rfl⟩:=List.mem_map.1 hx
    obtain ⟨b,hb,rfl⟩:=List.mem_map.1 hy
    have:=h b hb
    omega
  rw [List.length_map,List.length_map] at h2
  exact h2
section
variable {w0 ws w w' w1:World} {C:SgC w0} {h id p g q:Nat} {O own own' T:Nat→Prop} {L L':List Nat} {A A':St} {B R l r:List SB} {b:SB} {Q:Nat→QR}
theorem HpS.push (z:HpS w h O id p q (sgsOf B) Q) (b:SB): ∃a cap,w.cell? ⟨h,16,none⟩=some (.slice a B.length cap)∧Vec Elem.ptrs w (.slice a B.length cap) ((B.map fun b=>b.sp).map spP)∧B.length≤cap∧cap≤9223372036854775807∧
    ∀ w1 v',Upd (In (.slice a B.length cap)) w w1→Vec Elem.ptrs w1 v' ((B.map fun b=>b.sp).map spP++ [spP b.sp])→(∀k,In v' k→In (.slice a B.length cap) k∨w.heap.size≤k)→
      (∃y,w1.cell? ⟨h,16,none⟩=some y)∧w1.frozen? ⟨h,16,none⟩=false∧ ∃O',HpS (w1.setCell ⟨h,16,none⟩ v') h O' id p q (sgsOf (B++ [b])) Q∧(∀k,O' k→O k∨w.heap.size≤k)∧Upd O w (w1.setCell ⟨h,16,none⟩ v'):=by
  have z2:=z
  obtain ⟨f,OQ,v0,hc,hO⟩:=z2
  obtain ⟨v,c16,z16,hv,hin,hre⟩:=z.reseg
  obtain ⟨a,cap,rfl,h1,h2⟩:=hv.slice'
  have hl:(((sgsOf B).map fun s=>s.1).map fun s=>(some ⟨s,0,none⟩:Option Addr)).length=B.length:=by unfold sgsOf;simp
  rw [hl] at c16 hv hin hre h1
  rw [sps_of] at hv
  refine ⟨a,cap,c16,hv,h1,h2,fun w1 v' u hv' hin'=> ?_⟩
  have e0:v0= .slice a B.length cap:=by
    have:=hc.blk.cell 16
    rw [c16] at this
    injection this with this
    exact this.symm
  have hb:=hc.blk.upd u fun x=>(hin h x).2 rfl
  refine ⟨⟨_,hb.cell 16⟩,hb.frozen 16,hre w1 v' (sgsOf (B++ [b])) u ?_ hin'⟩
  rw [sps_of,List.map_append,List.map_append]
  exact hv'
theorem Hr.more (hw:Below w0.heap.size w0 w) (hp:HpS w h O id p q (sgsOf (B++ [b])) Q) (sh:Shop C w p g L ((B++R)++ [b])) (ia:IsArena w q own' A') (hS:A'.S=A.S) (hsz:A.S*16384=L.length) (pls: ∀b∈B++R,(b.X.pl,1)∈A.l) (hl: ∀x,x∈A'.l↔x∈A.l∨x=(b.X.pl,1))
    (hao: ∀k,own' k→k≠p∧k≠g∧ ∀a∈(B++R)++ [b],¬BP a k) (hap: ∀k,O k→k≠p∧k≠g∧ ¬own' k∧ ∀a∈(B++R)++ [b],¬BP a k) (hlo: ∀k,O k∨k=p∨k=g∨own' k∨(∃a∈(B++R)++ [b],BP a k)→w0.heap.size≤k):Hr C w h O id p g q own' L A' (B++ [b]) R Q:=by
  have hperm:((B++R)++ [b]).Perm ((B++ [b])++R):=by
    rw [List.append_assoc,List.append_assoc]
    exact List.Perm.append_left B List.perm_append_comm
  refine ⟨hp,⟨sh.perm hperm,ia,by rw [hS];exact hsz,fun a ha=> ?_,fun k hk=>⟨(hao k hk).1,(hao k hk).2.1,fun a ha=>(hao k hk).2.2 a (hperm.mem_iff.2 ha)⟩⟩,fun k hk he=> ?_,fun k hk=>hlo k ?_⟩
  · rw [hl]
    rcases List.mem_append.1 (hperm.mem_iff.2 ha) with ha|ha
    · exact .inl (pls a ha)
    · rw [List.mem_singleton.1 ha];exact .inr rfl
  · rcases he with x|x|x|⟨a,ha,x⟩
    · exact (hap k hk).1 x
    · exact (hap k hk).2.1 x
    · exact (hap k hk).2.2.1 x
    · exact (hap k hk).2.2.2 a (hperm.mem_iff.2 ha) x
  · rcases hk with hk|hk|hk|hk|⟨a,ha,hk⟩
    · exact .inl hk
    · exact .inr (.inl hk)
    · exact .inr (.inr (.inl hk))
    · exact .inr (.inr (.inr (.inl hk)))
    · exact .inr (.inr (.inr (.inr ⟨a,hperm.mem_iff.2 ha,hk⟩)))
theorem sg_new0 (hm:IsMem w p g L) (hlen:L.length≤1048576) {a sp:Nat} {I:Nat→Prop} {c:Addr} (ha:(a+1)*16384≤L.length) (hi:C.Int' w sp p I c (newSG a)) (hI: ¬I p∧ ¬I g):Sg C.Int' w sp p g I c L (newSG a):=
  ⟨hi,hm,⟨ha,hlen⟩,(show a≤63 by omega),GoodG.new a,(fun o ho=>by cases ho),(fun o ho=>by cases ho),List.nodup_nil,List.nodup_nil,hI.1,hI.2,fun o ho=>by cases ho⟩
theorem grow_ok (hw:Below w0.heap.size w0 w) (z:Hz C HpS w h O id p g q own L A B R Q) (hr:A.r≤1000000000000) {a:Nat} (e1:reserve A 1=((a:Int),0,A.give a 1)) (haS:a+1≤A.S) (hal: ∀x,x∈(A.give a 1).l↔x∈A.l∨x=(a,1)) (han: ∀x∈A.l,x.1≠a):
    Calls Tryz.prog 77 #[.pointer (some ⟨q,0,none⟩), .int .i64 1] w fun e w1=>e= .returned (.tuple #[.int .i64 (a:Int), .int .i64 0])∧w1.cell? ⟨h,13,none⟩=some (.pointer (some ⟨p,0,none⟩))∧
      Calls Tryz.prog 227 #[.pointer (some ⟨p,0,none⟩), .int .i64 (a:Int)] w1 fun e2 w2=> ∃sp c,e2= .returned (.tuple #[.pointer (some ⟨sp,0,none⟩), .int .i64 0])∧(∀w9,Below w2.heap.size w2 w9→w9.cell? ⟨h,15,none⟩=some (.int .u64 (id:Int)))∧
        (∀w9,Below w2.heap.size w2 w9→Calls Tryz.prog 181 #[.pointer (some ⟨sp,0,none⟩)] w9 fun e w'=>e= .returned (.pointer (some c))∧Below w2.heap.size w2 w')∧
        ∀ w9, Below w2.heap.size w2 w9→Calls Tryz.prog 182 #[.pointer (some c), .int .u64 (id:Int)] w9 fun e3 w3=>e3= .returned (.tuple #[])∧w3.cell? ⟨h,15,none⟩=some (.int .u64 (id:Int))∧
          ∃ av cap,w3.cell? ⟨h,16,none⟩=some (.slice av B.length cap)∧Vec Elem.ptrs w3 (.slice av B.length cap) ((B.map fun b=>b.sp).map spP)∧B.length≤cap∧cap≤9223372036854775807∧
            ∀ w4 v',Upd (In (.slice av B.length cap)) w3 w4→Vec Elem.ptrs w4 v' ((B.map fun b=>b.sp).map spP++ [spP sp])→(∀k,In v' k→In (.slice av B.length cap) k∨w3.heap.size≤k)→
              (∃y,w4.cell? ⟨h,16,none⟩=some y)∧w4.frozen? ⟨h,16,none⟩=false∧Turned C HpS w h O id p g q own L B R (w4.setCell ⟨h,16,none⟩ v') (growH (hsOf B Q) A id).1 (growH (hsOf B Q) A id).2.2 fun L'=>L'=L:=by
  have hlen:L.length≤1048576:=by have:=z.env.size;have:=z.env.ar.good.S2;omega
  have hoE: ∀k,own k→EO p g own (B++R) k:=fun k hk=> .inr (.inr (.inl hk))
  have hO: ∀k,O k→k<w.heap.size:=z.hp.num.2.1
  have hnum:=z.hp.num
  refine (reserve_any z.env.ar 1 hr).mono fun e w1 ⟨k1,⟨own',ia,hown⟩,u1⟩=> ?_
  rw [e1] at k1 ia
  have us1:=u1.size
  have hp1:HpS w1 h O id p q (sgsOf B) Q:=z.hp.upd u1 fun k hk ho=>z.ap k ho (hoE k hk)
  have sh1:=z.env.shop.upd u1 fun k hk=>z.env.ao k hk
  have b1:Below w0.heap.size w0 w1:=hw.trans (u1.below (fun k hk=>z.lo k (.inr (hoE k hk))) hw.size)
  obtain ⟨f1,OQ1,v1,hc1,hO1⟩:=hp1
  have hp1:HpS w1 h O id p q (sgsOf B) Q:=⟨f1,OQ1,v1,hc1,hO1⟩
  have hsz:=z.env.size
  refine ⟨k1,hc1.blk.cell 13,(C.new w1 b1 sh1.mem hlen (pl:=a) (by omega)).mono fun e2 w2 ⟨sp,c,I,k2,hi,hI,hb2⟩=>⟨sp,c,k2,fun w9 hb9=> ?_, ?_⟩⟩
  · have hb:=(hc1.blk.grew hb2).grew hb9
    exact hb.cell 15
  have hpl:=sh1.mem.head.lt
  have hgl:=sh1.mem.row.lt
  have hnI: ∀k,I k→w.heap.size≤k:=fun k hk=>Nat.le_trans us1 (hI k hk)
  have sg2:Sg C.Int' w2 sp p g I c L (newSG a):=sg_new0 ((sh1.grew hb2).mem) hlen (by omega) hi ⟨fun x=>by have:=hI p x;omega,fun x=>by have:=hI g x;omega⟩
  have bw2:=below_then b1 b1.size hb2
  refine ⟨fun w9 hb9=> ?_,fun w9 hb9=> ?_⟩
  · exact (C.owner w9 (below_then bw2 bw2.size hb9) (sg2.grew hb9)).mono fun e w' k=>⟨k.1,below_then hb9 hb9.size k.2⟩
  refine (C.ostore w9 (below_then bw2 bw2.size hb9) (y:=id) (sg2.grew hb9) (by show (0:Nat)≤1000000000;omega) hnum.2.2.2).mono fun e3 w3 ⟨k3,sg3,u3⟩=> ?_
  have hb29:Below w1.heap.size w1 w9:=below_then hb2 hb2.size hb9
  have us3:=u3.size
  have us9:=hb29.size
  have hIO: ∀k,I k→ ¬O k:=fun k hk ho=>by have:=hO k ho;have:=hnI k hk;omega
  have hp3:HpS w3 h O id p q (sgsOf B) Q:=(hp1.upd (updFalse_of hb29) fun _ x=>x.elim).upd u3 hIO
  have hnE: ∀k,I k→ ¬EO p g own (B++R) k:=fun k hk he=>by have:=z.env.lt he;have:=hnI k hk;omega
  have sh3:Shop C w3 p g L (B++R):=(sh1.grew hb29).upd u3 fun k hk=>⟨fun e=>hnE k hk (.inl e),fun e=>hnE k hk (.inr (.inl e)),fun b hb x=>hnE k hk (.inr (.inr (.inr ⟨b,hb,x⟩)))⟩
  have hownI: ∀k,own' k→ ¬I k:=fun k hk hi2=>by
    have h1:=ia.lt hk
    have h2:=hI k hi2
    omega
  have ia3:IsArena w3 q own' (A.give a 1):=(ia.upd (updFalse_of hb29) fun _ _ x=>x.elim).upd u3 hownI
  have hx15:w3.cell? ⟨h,15,none⟩=some (.int .u64 (id:Int)):=by
    have hq3:=hp3
    obtain ⟨f3,OQ3,v3,hc3,hO3⟩:=hq3
    exact hc3.blk.cell 15
  obtain ⟨bn,hbn⟩: ∃bn:SB,(⟨sp,I,c,ownedSG id a⟩:SB)=bn:=⟨_,rfl⟩
  have hbI: ∀x,BP bn x→I x:=fun x hx=>by
    rw [←hbn] at hx
    rcases hx with hx|⟨o,ho,_⟩
    · exact hx
    · cases ho
  have hbpl:bn.X.pl=a:=by rw [←hbn];rfl
  have hbsp:bn.sp=sp:=by rw [←hbn]
  have sh3':Shop C w3 p g L ((B++R)++ [bn]):=sh3.more (by rw [←hbn];exact sg3) (fun b hb e=>by
    have h1:=z.env.pls b hb
    exact han _ h1 (by rw [e];exact hbpl)) fun x hx b hb hp=>hnE x (hbI x hx) (.inr (.inr (.inr ⟨b,hb,hp⟩)))
  obtain ⟨av,cap,c16,hv,hc1',hc2',hre⟩:=hp3.push bn
  refine ⟨k3,hx15,av,cap,c16,hv,hc1',hc2',fun w4 v' u4 hv4 hin4=> ?_⟩
  obtain ⟨hy,hz,O',hp4,hO4,u5⟩:=hre w4 v' u4 (by rw [hbsp];exact hv4) hin4
  refine ⟨hy,hz, ?_⟩
  have hE: ∀k,O k→k≠p∧k≠g∧ ¬own' k∧ ∀b∈(B++R)++ [bn],¬BP b k:=fun k hk=>by
    refine ⟨fun e=>z.ap k hk (.inl e),fun e=>z.ap k hk (.inr (.inl e)),fun ho=> ?_,fun b hb hx=> ?_⟩
    · rcases hown k ho with x|x
      · exact z.ap k hk (hoE k x)
      · have:=hO k hk;omega
    · rcases List.mem_append.1 hb with hb|hb
      · exact z.ap k hk (.inr (.inr (.inr ⟨b,hb,hx⟩)))
      · rw [List.mem_singleton.1 hb] at hx
        exact hIO k (hbI k hx) hk
  have hO5: ∀k,O' k→O k∨w.heap.size≤k:=fun k hk=>(hO4 k hk).imp (fun x=>x) fun x=>by omega
  have hlt3: ∀k,(k=p∨k=g∨own' k∨ ∃b∈(B++R)++ [bn],BP b k)→k<w3.heap.size:=fun k hk=>by
    rcases hk with e|e|e|⟨b,hb,e⟩
    · rw [e];exact sh3.mem.head.lt
    · rw [e];exact sh3.mem.row.lt
    · exact ia3.lt e
    · exact sh3'.lt hb e
  have hbw3:Below w0.heap.size w0 w3:=(below_then b1 b1.size hb29).trans (u3.below (fun k hk=>by have:=hnI k hk;have:=hw.size;omega) (below_then b1 b1.size hb29).size)
  have hbw5:=hbw3.trans (u5.below (fun k hk=>z.lo k (.inl hk)) hbw3.size)
  have hr:=Hr.more (b:=bn) (R:=R) (A:=A) hbw5 hp4 (sh3'.upd u5 fun k hk=>⟨(hE k hk).1,(hE k hk).2.1,(hE k hk).2.2.2⟩) (ia3.upd u5 fun k hk ho=>(hE k ho).2.2.1 hk) rfl hsz z.env.pls (by rw [hbpl];exact hal) (fun k hk=> ?_) (fun k hk=> ?_) (fun k hk=> ?_)
  · have eG:growH (hsOf B Q) A id=({hsOf B Q with B:=(hsOf B Q).B++ [ownedSG id a]},0,A.give a 1):=by
      unfold growH
      rw [e1,if_neg (by simp)]
      simp
    have gg:=good_grow (id:=id) z.good z.env.ar.good fun X hX=>by
      obtain ⟨b,hb,rfl⟩:=List.mem_map.1 hX
      exact ⟨1,z.env.pls b (List.mem_append_left _ hb)⟩
    rw [eG] at gg⊢
    have eB:(B++ [bn]).map (fun b=>b.X)=(hsOf B Q).B++ [ownedSG id a]:=by
      rw [List.map_append,←hbn];rfl
    refine ⟨O',own',L,B++ [bn],hr.to (by rw [hs_ext (H:=hsOf (B++ [bn]) Q) (H':={hsOf B Q with B:=(hsOf B Q).B++ [ownedSG id a]}) eB rfl];exact gg),eB,rfl,rfl,fun k hk=> ?_, ?_⟩
    · rcases hk with hk|hk|hk|hk|⟨b,hb,hk⟩
      · exact (hO5 k hk).imp .inl fun x=>x
      · exact .inl (.inr (.inl hk))
      · exact .inl (.inr (.inr (.inl hk)))
      · exact (hown k hk).imp (fun x=> .inr (.inr (.inr (.inl x)))) fun x=>x
      · rcases List.mem_append.1 hb with hb|hb
        · exact .inl (.inr (.inr (.inr (.inr ⟨b,hb,hk⟩))))
        · rw [List.mem_singleton.1 hb] at hk
          exact .inr (hnI k (hbI k hk))
    · have c1:Upd (HO p g own O B) w w1:=u1.mono fun k hk=> .inr (.inr (.inr (.inl hk)))
      have c2:=c1.step (updFalse_of hb29) fun _ x=>x.elim
      have c3:=c2.step u3 fun k hk=> .inr (hnI k hk)
      exact c3.step u5 fun k hk=> .inl (.inl hk)
  · refine ⟨fun e=> ?_,fun e=> ?_,fun b hb hx=> ?_⟩
    · rcases hown k hk with x|x
      · exact (z.env.ao k x).1 e
      · have:=z.env.shop.mem.head.lt;omega
    · rcases hown k hk with x|x
      · exact (z.env.ao k x).2.1 e
      · have:=z.env.shop.mem.row.lt;omega
    · rcases List.mem_append.1 hb with hb|hb
      · rcases hown k hk with x|x
        · exact (z.env.ao k x).2.2 b hb hx
        · have:=z.env.shop.lt hb hx;omega
      · rw [List.mem_singleton.1 hb] at hx
        exact hownI k hk (hbI k hx)
  · rcases hO4 k hk with x|x
    · exact hE k x
    · refine ⟨fun e=> ?_,fun e=> ?_,fun e=> ?_,fun b hb e=> ?_⟩
      · have:=hlt3 k (.inl e);omega
      · have:=hlt3 k (.inr (.inl e));omega
      · have:=hlt3 k (.inr (.inr (.inl e)));omega
      · have:=hlt3 k (.inr (.inr (.inr ⟨b,hb,e⟩)));omega
  · have h0:=hw.size
    rcases hk with hk|e|e|e|⟨b,hb,e⟩
    · rcases hO5 k hk with x|x
      · exact z.lo k (.inl x)
      · omega
    · exact z.lo k (.inr (.inl e))
    · exact z.lo k (.inr (.inr (.inl e)))
    · rcases hown k e with x|x
      · exact z.lo k (.inr (hoE k x))
      · omega
    · rcases List.mem_append.1 hb with hb|hb
      · exact z.lo k (.inr (.inr (.inr (.inr ⟨b,hb,e⟩))))
      · rw [List.mem_singleton.1 hb] at e
        have:=hnI k (hbI k e);omega
end
end Go.Proofs.YtippfeplogkaiaaGreatDoor
namespace Go.Proofs.YtippfeplogkaiaaGreatDoor
open Go.RowKit ListMath PageMath GeoMath SegMath ClassMath HeapMath QueueMath ArenaMath
set_option linter.unusedVariables false
set_option maxRecDepth 100000
section
variable {w0 ws w w' w1:World} {C:SgC w0} {h id p g q:Nat} {O own own' T:Nat→Prop} {L L':List Nat} {A A':St} {B R l r:List SB} {b:SB} {Q:Nat→QR}
theorem arena_same (hw:Below w0.heap.size w0 w) (z:Hz C HpS w h O id p g q own L A B R Q) (ia:IsArena w' q own' A') (hl:A'.l=A.l) (hS:A'.S=A.S) (hown: ∀k,own' k→own k∨w.heap.size≤k) (u:Upd own w w'):Turned C HpS w h O id p g q own L B R w' (hsOf B Q) A' fun L'=>L'=L:=by
  have hoE: ∀k,own k→EO p g own (B++R) k:=fun k hk=> .inr (.inr (.inl hk))
  have hE: ∀k,EO p g own' (B++R) k→EO p g own (B++R) k∨w.heap.size≤k:=fun k hk=>by
    rcases hk with x|x|x|⟨a,ha,x⟩
    · exact .inl (.inl x)
    · exact .inl (.inr (.inl x))
    · exact (hown k x).imp (hoE k) fun x=>x
    · exact .inl (.inr (.inr (.inr ⟨a,ha,x⟩)))
  have env:=z.env
  refine ⟨O,own',L,B,⟨z.hp.upd u fun k hk ho=>z.ap k ho (hoE k hk),⟨env.shop.upd u fun k hk=>env.ao k hk,ia,by rw [hS];exact env.size,fun b hb=>by rw [hl];exact env.pls b hb,fun k hk=> ?_⟩,z.good,fun k hk he=> ?_,fun k hk=> ?_⟩,rfl,rfl,rfl,fun k hk=> ?_,u.mono fun k hk=> .inr (.inr (.inr (.inl hk)))⟩
  · rcases hown k hk with x|x
    · exact env.ao k x
    · refine ⟨fun e=> ?_,fun e=> ?_,fun a ha hp=> ?_⟩
      · have:=env.shop.mem.head.lt;omega
      · have:=env.shop.mem.row.lt;omega
      · have:=env.shop.lt ha hp;omega
  · rcases hE k he with x|x
    · exact z.ap k hk x
    · have:=z.hp.num.2.1 k hk;omega
  · rcases hk with hk|hk
    · exact z.lo k (.inl hk)
    · rcases hE k hk with x|x
      · exact z.lo k (.inr x)
      · have:=hw.size;omega
  · rcases hk with hk|hk|hk|hk|⟨a,ha,hk⟩
    · exact .inl (.inl hk)
    · exact .inl (.inr (.inl hk))
    · exact .inl (.inr (.inr (.inl hk)))
    · exact (hown k hk).imp (fun x=> .inr (.inr (.inr (.inl x)))) fun x=>x
    · exact .inl (.inr (.inr (.inr (.inr ⟨a,ha,hk⟩))))
set_option maxHeartbeats 4000000 in
theorem hp_grow (hw:Below w0.heap.size w0 w) (z:Hz C HpS w h O id p g q own L A B R Q) (hr:A.r≤1000000000000):
    Calls Tryz.prog 186 #[.pointer (some ⟨h,0,none⟩)] w fun e w'=>e= .returned (.int .i64 (growH (hsOf B Q) A id).2.1)∧Turned C HpS w h O id p g q own L B R w' (growH (hsOf B Q) A id).1 (growH (hsOf B Q) A id).2.2 fun L'=>L'=L:=by
  obtain ⟨f,OQ,v,hc,hO⟩:=z.hp
  have c14:w.cell? ⟨h,14,none⟩=some (.pointer (some ⟨q,0,none⟩)):=hc.blk.cell 14
  clear hc hO
  rcases reserve_1 A z.env.ar.good with ⟨a,e1,haS,hal,han⟩|⟨hne,hl,hS⟩
  · have RV:=Lib.hid (grow_ok hw z hr e1 haS hal han)
    have e0:(growH (hsOf B Q) A id).2.1=0:=by unfold growH;rw [e1,if_neg (by simp)]
    have HE0:=Lib.hid e0
    have hlen:B.length≤64:=pls_len (Hr.of z).pls fun b hb=>((Hr.of z).sg hb).pl
    obtain ⟨n,hn⟩: ∃n,B.length=n:=⟨_,rfl⟩
    rw [hn] at RV hlen
    obtain ⟨Lp,hLp⟩: ∃Lp,(B.map fun b=>b.sp).map spP=Lp:=⟨_,rfl⟩
    rw [hLp] at RV
    have hLl:Lp.length=n:=by rw [←hLp,←hn];simp
    have HL:=Lib.hid hLl
    obtain ⟨i0,hi,hz0,hz1,hz2⟩:=info_parts infoPS
    clear hw z hr e1 haS hal han e0 hn hLp hLl
    go_enter Tryz.func186,Tryz.ntmps186
    go_wp2_with fail
    refine RV.out.mono ?_;rintro e w1 ⟨rfl,c13,hnx⟩
    have NX:=Lib.hid hnx
    clear hnx c14 RV
    go_wp2_with fail
    refine NX.out.mono ?_;rintro e w2 ⟨sp,c,rfl,h15,how,hst⟩
    have H15:=Lib.hid h15;have OW:=Lib.hid how;have ST:=Lib.hid hst
    have BB:=Lib.hid (Below.refl w2.heap.size w2)
    clear h15 how hst c13 NX
    go_wp2
    go_region_held3 (fun w'=>w'.cell? ⟨h,15,none⟩=some (.int .u64 (id:Int))) (first|exact H15.out _ BB.out|exact H15.out _ BB.out.drew|exact C3.out)
      (first
        |(go_at_call 181;(first|(with_reducible refine (OW.out _ BB.out.drew).mono ?_)|(with_reducible refine (OW.out _ BB.out).mono ?_));rintro e wo ⟨rfl,hb⟩;have BB:=Lib.hid hb;clear hb)
        |(go_at_call 182;(with_reducible refine (ST.out _ BB.out).mono ?_);rintro e w3 ⟨rfl,hc3,hnx⟩;have C3:=Lib.hid hc3;have NX:=Lib.hid hnx;clear hc3 hnx))
    obtain ⟨av,cap,c16,hv,hc1,hc2,hfin⟩:=NX.out
    have V:=Lib.hid hv;have FIN:=Lib.hid hfin
    clear hv hfin NX
    go_wp2_with (at_builtin;refine wpList_append_vec (E:=Elem.ptrs) rfl (.tmp 48) (.tmp 50) 229 rfl 114 i0 (.pointer none) 8 Tryz.underlying229 hi hz0 hz1 hz2 rfl (.slice av n cap) (.slice (some ⟨w3.heap.size,0,none⟩) 1 1) Lp [spP sp] rfl rfl (V.out.alloc _) (Seq.new w3 _ [spP sp] 1) ?_ ?_ ?_;(rw [HL.out];simp only [maxLen,List.length_cons,List.length_nil];omega);(rw [HL.out];simp only [List.length_cons,List.length_nil];omega);intro v8 w8 hv8 hu8 hin8;obtain ⟨⟨y16,d16⟩,z16,ht⟩:=FIN.out w8 v8 (((Upd.refl _ w3).alloc _).trans hu8) hv8 (fun k hk=>(hin8 k hk).imp (fun x=>x) (fun x=>by rw [World.size_alloc] at x;omega));obtain ⟨a8,c8,e8,_,_⟩:=hv8.slice';obtain ⟨n8,hn8⟩: ∃n8,(Lp++ [spP sp]).length=n8:=⟨_,rfl⟩;rw [hn8] at e8;subst e8;clear hn8;have T8:=Lib.hid ht;clear hv8 hu8 hin8 ht)
    go_ret
    rw [HE0.out]
    exact ⟨rfl,T8.out⟩
  · have e0:growH (hsOf B Q) A id=(hsOf B Q,(reserve A 1).2.1,(reserve A 1).2.2):=by unfold growH;rw [if_pos hne]
    rw [e0]
    obtain ⟨x,hx⟩: ∃x,(reserve A 1).1=x:=⟨_,rfl⟩
    obtain ⟨er,her⟩: ∃er,(reserve A 1).2.1=er:=⟨_,rfl⟩
    obtain ⟨A2,hA2⟩: ∃A2,(reserve A 1).2.2=A2:=⟨_,rfl⟩
    have RV:Hid (Calls Tryz.prog 77 #[.pointer (some ⟨q,0,none⟩), .int .i64 1] w fun e w'=>e= .returned (.tuple #[.int .i64 x, .int .i64 er])∧Turned C HpS w h O id p g q own L B R w' (hsOf B Q) A2 fun L'=>L'=L):=Lib.hid ((reserve_any z.env.ar 1 hr).mono fun e w' ⟨k1,⟨own',ia,hown⟩,u1⟩=>⟨by rw [k1,hx,her],by rw [←hA2];exact arena_same hw z ia hl hS hown u1⟩)
    have t1:(er !=0)=true:=by rw [←her,bne_iff_ne];exact hne
    show Calls _ _ _ _ fun e w'=>e= .returned (.int .i64 (reserve A 1).2.1)∧Turned C HpS w h O id p g q own L B R w' (hsOf B Q) (reserve A 1).2.2 fun L'=>L'=L
    rw [her,hA2]
    clear hw z hr hne hl hS e0 hx her hA2
    go_enter Tryz.func186,Tryz.ntmps186
    go_wp2_with fail
    refine RV.out.mono ?_;rintro e w1 ⟨rfl,ht⟩
    have T1:=Lib.hid ht
    clear ht c14
    go_wp2
    go_ret
    exact ⟨rfl,T1.out⟩
theorem hp_grow_nil (w:World):Calls Tryz.prog 186 #[.pointer none] w fun e w'=>e= .returned (.int .i64 1)∧Below w.heap.size w w':=by
  go_enter Tryz.func186,Tryz.ntmps186
  go_wp2
  go_ret
  exact ⟨rfl,Below.refl _ _⟩
theorem hp_new (w:World) {p q id:Nat} (h1:1≤id) (h2:id≤18446744073709551615):
    Calls Tryz.prog 78 #[.pointer (some ⟨p,0,none⟩), .pointer (some ⟨q,0,none⟩), .int .u64 (id:Int)] w fun e w'=> ∃h O,e= .returned (.tuple #[.pointer (some ⟨h,0,none⟩), .int .i64 0])∧HpS w' h O id p q [] (fun _=>q0)∧(∀k,O k→w.heap.size≤k)∧Below w.heap.size w w':=by
  have t1:((id:Int)==0)=false:=by rw [beq_eq_false_iff_ne];omega
  go_enter Tryz.func78,Tryz.ntmps78
  go_wp2
  go_ret2
  refine ⟨w.heap.size,HcO w.heap.size (fun _ _=>False) (.slice none 0 0),rfl,⟨fun _=>none,fun _ _=>False, .slice none 0 0,⟨Blk.new w _ _,fun i hi=> .inl ⟨rfl,rfl⟩,fun i hi x=>x,fun i hi k x=>x.elim,fun i hi x hx=>(by cases hx),fun i j _ _ _ k x=>x.elim,Vec.nil _,(by intro k hk;cases hk),h1,h2⟩,fun k=>Iff.rfl⟩,fun k hk=> ?_,(Below.refl _ _).alloc (Nat.le_refl _) _⟩
  rcases hk with rfl|⟨i,_,x⟩|hk
  · exact Nat.le_refl _
  · exact x.elim
  · cases hk
end
end Go.Proofs.YtippfeplogkaiaaGreatDoor
namespace Go.Proofs.YtippfeplogkaiaaGreatDoor
open Go.RowKit ListMath PageMath GeoMath SegMath ClassMath HeapMath QueueMath ArenaMath
set_option linter.unusedVariables false
set_option maxRecDepth 100000
theorem putAll_app (X:SG): ∀(l:List OwR) (Q:Nat→QR) (o:OwR),putAll Q X (l++ [o])=setQi (putAll Q X l) (qi o.cls) (putE (putAll Q X l (qi o.cls)) (HeapMath.keyOf X o))
  | [],Q,o=>by
    show (fun i=>if i=qi o.cls then putE (Q i) (HeapMath.keyOf X o) else Q i)=_
    funext i
    unfold setQi
    show _=if i=qi o.cls then putE (Q (qi o.cls)) (HeapMath.keyOf X o) else Q i
    by_cases e:i=qi o.cls
    · rw [if_pos e,if_pos e,e]
    · rw [if_neg e,if_neg e]
  | u::t,Q,o=>by
    show putAll _ X (t++ [o])=_
    rw [putAll_app X t]
    rfl
theorem putE_len (S:QR) (k:Int):(putE S k).all.length≤S.all.length+1:=by
  unfold putE
  have h1:=push_len (removeE S [k]).1 [k]
  have h2:=remove_len S [k]
  have h3:([k]:List Int).length=1:=rfl
  omega
theorem putAll_len (X:SG): ∀(l:List OwR) (Q:Nat→QR) (i:Nat),(putAll Q X l i).all.length≤(Q i).all.length+l.length
  | [],Q,i=>Nat.le_refl _
  | o ::t,Q,i=>by
    have h:=putAll_len X t (fun i=>if i=qi o.cls then putE (Q i) (HeapMath.keyOf X o) else Q i) i
    show (putAll _ X t i).all.length≤_
    rw [List.length_cons]
    by_cases e:i=qi o.cls
    · simp only [if_pos e] at h
      have:=putE_len (Q i) (HeapMath.keyOf X o)
      omega
    · simp only [if_neg e] at h
      omega
section
variable {w0 ws w w' w1:World} {C:SgC w0} {h id p g q:Nat} {O own own' T:Nat→Prop} {L L':List Nat} {A A':St} {B R l r R1 R2:List SB} {b:SB} {Q:Nat→QR}
theorem find_pl (hn:((l++b::r).map fun b=>b.X.pl).Nodup):(l++b::r).find? (fun c=>decide ((c.X.pl:Int)=(b.X.pl:Int)))=some b:=by
  rw [List.map_append,List.map_cons,List.nodup_append] at hn
  rw [List.find?_append,List.find?_eq_none.2 fun x hx=> ?_,List.find?_cons_of_pos (by simp)]
  · rfl
  · have:=hn.2.2 _ (List.mem_map.2 ⟨x,hx,rfl⟩) b.X.pl (List.mem_cons_self ..)
    simp only [decide_eq_true_eq];omega
set_option maxHeartbeats 1000000 in
theorem hp_leave_none (hw:Below w0.heap.size w0 w) (z:Hz C HpS w h O id p g q own L A B R Q) {pl:Int} (hne: ∀b∈B,(b.X.pl:Int)≠pl):
    Calls Tryz.prog 194 #[.pointer (some ⟨h,0,none⟩), .int .i64 pl] w fun e w'=>e= .returned (.tuple #[.pointer none, .int .i64 5])∧Below w.heap.size w w':=by
  have AT:=Lib.hid (at_any12 hw (Hr.of z) pl)
  rw [List.find?_eq_none.2 fun x hx=>by simpa using hne x hx] at AT
  change Hid (Calls _ _ _ _ fun e w'=>e= .returned (.pointer none)∧_) at AT
  clear hw z hne
  go_enter Tryz.func194,Tryz.ntmps194
  go_wp2_with fail
  refine AT.out.mono ?_;rintro e w1 ⟨rfl,hb⟩
  have B1:=Lib.hid hb
  clear hb
  go_wp2
  go_ret2
  exact ⟨rfl,B1.out⟩
set_option maxHeartbeats 1000000 in
theorem hp_leave (LY:Lay w0) (hw:Below w0.heap.size w0 w) (z:Hz C HpS w h O id p g q own L A (l++b::r) R Q):
    Calls Tryz.prog 194 #[.pointer (some ⟨h,0,none⟩), .int .i64 (b.X.pl:Int)] w fun e w'=>e= .returned (.tuple #[.pointer (some ⟨b.sp,0,none⟩), .int .i64 0])∧ ∃O',Hz C HpS w' h O' id p g q own L A (l++r) (b::R) (leaveH (hsOf (l++b::r) Q) (b.X.pl:Int)).1.Q∧(∀k,O' k→O k∨w.heap.size≤k)∧Upd O w w':=by
  have hbm:b∈l++b::r:=List.mem_append_right _ (List.mem_cons_self ..)
  have hpls:=(Hr.of z).pls
  have AT:=Lib.hid (at_any12 hw (Hr.of z) (b.X.pl:Int))
  rw [find_pl hpls] at AT
  change Hid (Calls _ _ _ _ fun e w'=>e= .returned (.pointer (some ⟨b.sp,0,none⟩))∧_) at AT
  have hfind:(hsOf (l++b::r) Q).B.find? (fun Y=>decide ((Y.pl:Int)=(b.X.pl:Int)))=some b.X:=by
    show ((l++b::r).map fun b=>b.X).find? _=_
    rw [List.find?_map]
    have:=find_pl hpls
    change (l++b::r).find? ((fun Y:SG=>decide ((Y.pl:Int)=(b.X.pl:Int)))∘fun b:SB=>b.X)=some b at this
    rw [this];rfl
  have eL:(leaveH (hsOf (l++b::r) Q) (b.X.pl:Int)).1=⟨(l++r).map fun b=>b.X,dropAll Q b.X b.X.L⟩:=by
    unfold leaveH
    rw [hfind]
    simp only []
    exact hs_ext (map_cutB hpls) rfl
  have LO:=Lib.hid (fun w2 (hb:Below w.heap.size w w2)=>(lose_any LY ((Hn.start (T:=O) hw (Hr.of z) fun k hk=>hk).grew hb) (fun i hi=>(keys_of z.good i).1) (fun i hi=>(keys_of z.good i).2)).mono fun e w' ⟨k1,O',n'⟩=>show e=Ending.returned (.tuple #[])∧ ∃O',Hz C HpS w' h O' id p g q own L A (l++r) (b::R) (leaveH (hsOf (l++b::r) Q) (b.X.pl:Int)).1.Q∧(∀k,O' k→O k∨w.heap.size≤k)∧Upd O w w' from
    ⟨k1,O',(by
      have gg:=good_leave z.good (b.X.pl:Int)
      rw [eL] at gg⊢
      refine Hr.to (n'.congr fun i hi=> ?_).z gg
      exact (clear_is z.good (List.mem_map.2 ⟨b,hbm,rfl⟩) i).symm),n'.t,n'.u⟩)
  obtain ⟨sp,hsp⟩: ∃sp,b.sp=sp:=⟨_,rfl⟩
  obtain ⟨pl,hpl⟩: ∃pl,b.X.pl=pl:=⟨_,rfl⟩
  rw [hsp,hpl] at AT LO
  rw [hsp,hpl]
  clear hw z hbm hpls hfind eL hsp hpl LY
  go_enter Tryz.func194,Tryz.ntmps194
  go_wp2_with fail
  refine AT.out.mono ?_;rintro e w1 ⟨rfl,hb⟩
  have K1:=Lib.hid (LO.out w1 hb)
  clear hb LO
  go_wp2_with fail
  refine K1.out.mono ?_;rintro e w2 ⟨rfl,hz⟩
  have Z2:=Lib.hid hz
  clear hz
  go_wp2
  go_ret2
  exact ⟨rfl,Z2.out⟩
theorem hp_adopt_nil (w:World) (h:Nat):Calls Tryz.prog 183 #[.pointer (some ⟨h,0,none⟩), .pointer none] w fun e w'=>e= .returned (.int .i64 1)∧Below w.heap.size w w':=by
  go_enter Tryz.func183,Tryz.ntmps183
  go_wp2
  go_ret
  exact ⟨rfl,Below.refl _ _⟩
set_option maxHeartbeats 1000000 in
theorem hp_adopt_there (hw:Below w0.heap.size w0 w) (z:Hz C HpS w h O id p g q own L A B R Q) (hb:b∈B):
    Calls Tryz.prog 183 #[.pointer (some ⟨h,0,none⟩), .pointer (some ⟨b.sp,0,none⟩)] w fun e w'=>e= .returned (.int .i64 6)∧Below w.heap.size w w':=by
  obtain ⟨l,r,rfl⟩:=List.append_of_mem hb
  have PL:=Lib.hid (C.place w hw ((Hr.of z).sg hb))
  have AT:=Lib.hid (fun w2 (hb:Below w.heap.size w w2)=>at_any12 (below_then hw hw.size hb) ((Hr.of z).grew hb) (b.X.pl:Int))
  rw [find_pl (Hr.of z).pls] at AT
  change Hid (∀w2,_→Calls _ _ _ _ fun e w'=>e= .returned (.pointer (some ⟨b.sp,0,none⟩))∧_) at AT
  obtain ⟨sp,hsp⟩: ∃sp,b.sp=sp:=⟨_,rfl⟩
  obtain ⟨pl,hpl⟩: ∃pl,b.X.pl=pl:=⟨_,rfl⟩
  rw [hsp,hpl] at AT PL
  rw [hsp]
  clear hw z hb hsp hpl
  go_enter Tryz.func183,Tryz.ntmps183
  go_wp2_with fail
  refine PL.out.mono ?_;rintro e w1 ⟨rfl,hb⟩
  have B1:=Lib.hid hb
  clear hb
  go_wp2_with fail
  refine (AT.out w1 B1.out).mono ?_;rintro e w2 ⟨rfl,hb⟩
  have B2:=Lib.hid (below_then B1.out B1.out.size hb)
  clear hb
  go_wp2
  go_ret
  exact ⟨rfl,B2.out⟩
theorem Seq.keep {α:Type} {E:Elem α} {T:Nat→Prop} {w w':World} {v:Value} {l:List α} (h:Seq E w v l) (hn:l= []∨ ∀k,In v k→ ¬T k) (u:Upd T w w'):Seq E w' v l:=by
  rcases hn with rfl|hn
  · rcases h with ⟨b,off,cap,e,hc⟩|h
    · exact .inl ⟨b,off,cap,e,fun j u hj=>by simp [Elem.all] at hj⟩
    · exact .inr h
  · exact h.upd u hn
theorem Seq.blk_lt {w:World} {a:Option Addr} {k cap:Nat} {l:List (Option Addr)} (h:Seq Elem.ptrs w (.slice a k cap) l):l= []∨ ∀x,In (.slice a k cap) x→x<w.heap.size:=by
  cases l with
  |nil=>exact .inl rfl
  | cons y t=>
    obtain ⟨b,off,rfl,hc⟩:=h.elem (i:=0) (x:=y) rfl
    refine .inr fun x hx=> ?_
    have e:=in_blk hx
    subst e
    exact World.block_lt_of_cell? w _ (hc 0 (.pointer y) rfl)
def AdR {w0:World} (C:SgC w0) (w:World) (h:Nat) (O:Nat→Prop) (id p g q:Nat) (own:Nat→Prop) (L:List Nat) (A:St) (B R:List SB) (Q:Nat→QR) (X:SG) (v:Value) (i:Value) (wr:World):Prop:=
  ∃(t:Nat) (O1:Nat→Prop),t≤X.L.length∧i= .int .i64 (t:Int)∧Hn C w O wr h O1 id p g q own L A B R (putAll Q X (X.L.take t))∧Seq Elem.ptrs wr v (X.L.map fun o=>some ⟨o.op,0,none⟩)∧(X.L= []∨Away v O1 wr)
set_option maxHeartbeats 8000000 in
theorem hp_adopt (LY:Lay w0) (hw:Below w0.heap.size w0 w) (z:Hz C HpS w h O id p g q own L A B (R1++b::R2) Q):
    Calls Tryz.prog 183 #[.pointer (some ⟨h,0,none⟩), .pointer (some ⟨b.sp,0,none⟩)] w fun e w'=>e= .returned (.int .i64 0)∧ ∃O',Hz C HpS w' h O' id p g q own L A (B++ [b]) (R1++R2) (adoptH (hsOf B Q) b.X).1.Q∧(∀k,O' k→O k∨w.heap.size≤k)∧Upd O w w':=by
  have hbm:b∈B++(R1++b::R2):=List.mem_append_right _ (List.mem_append_right _ (List.mem_cons_self ..))
  have hsb:=z.env.shop.sg b hbm
  have hnp: ∀c∈B,c.X.pl≠b.X.pl:=fun c hc=>by
    have hn:=z.env.shop.nd
    rw [List.map_append,List.nodup_append] at hn
    exact hn.2.2 _ (List.mem_map.2 ⟨c,hc,rfl⟩) _ (List.mem_map.2 ⟨b,List.mem_append_right _ (List.mem_cons_self ..),rfl⟩)
  have hnone:B.find? (fun c=>decide ((c.X.pl:Int)=(b.X.pl:Int)))=none:=List.find?_eq_none.2 fun x hx=>by
    have:=hnp x hx
    simp only [decide_eq_true_eq];omega
  have PL:=Lib.hid (C.place w hw hsb)
  have AT:=Lib.hid (fun w2 (hb:Below w.heap.size w w2)=>at_any12 (below_then hw hw.size hb) ((Hr.of z).grew hb) (b.X.pl:Int))
  rw [hnone] at AT
  change Hid (∀w2,_→Calls _ _ _ _ fun e w'=>e= .returned (.pointer none)∧_) at AT
  have gX:GoodS b.X:=⟨hsb.good,hsb.pl,hsb.pps⟩
  have eA:(adoptH (hsOf B Q) b.X).1=⟨(B++ [b]).map fun b=>b.X,putAll Q b.X b.X.L⟩:=by
    unfold adoptH
    rw [if_neg (fun hc=>by
      obtain ⟨Y,hY,e⟩:=List.any_eq_true.1 hc
      obtain ⟨c,hc,rfl⟩:=List.mem_map.1 hY
      exact hnp c hc (by simpa using e))]
    refine hs_ext ?_ ?_
    · show (hsOf B Q).B++ [b.X]=_
      rw [List.map_append];rfl
    · exact (adopt_put z.good gX fun Y hY=>by
        obtain ⟨c,hc,rfl⟩:=List.mem_map.1 hY
        exact hnp c hc).symm
  have gA:=good_adopt z.good gX
  rw [eA] at gA⊢
  have hperm:(B++(R1++b::R2)).Perm ((B++ [b])++(R1++R2)):=by
    rw [List.append_assoc]
    exact List.Perm.append_left B List.perm_middle
  have hlen:B.length≤64:=pls_len (Hr.of z).pls fun b hb=>((Hr.of z).sg hb).pl
  have hcount:=hsb.good.count
  have n0:=Hn.start (T:=O) hw (Hr.of z) fun k hk=>hk
  have PU:=Lib.hid (fun w2 (hb:Below w.heap.size w w2)=>by
    obtain ⟨a,cap,c16,hv,hc1,hc2,hre⟩:=(n0.grew hb).z.hp.push b
    exact show ∃a cap,w2.cell? ⟨h,16,none⟩=some (.slice a B.length cap)∧Vec Elem.ptrs w2 (.slice a B.length cap) ((B.map fun b=>b.sp).map spP)∧B.length≤cap∧cap≤9223372036854775807∧
      ∀ w4 v',Upd (In (.slice a B.length cap)) w2 w4→Vec Elem.ptrs w4 v' ((B.map fun b=>b.sp).map spP++ [spP b.sp])→(∀k,In v' k→In (.slice a B.length cap) k∨w2.heap.size≤k)→
        (∃y,w4.cell? ⟨h,16,none⟩=some y)∧w4.frozen? ⟨h,16,none⟩=false∧ ∃O',Hn C w O (w4.setCell ⟨h,16,none⟩ v') h O' id p g q own L A (B++ [b]) (R1++R2) Q from
      ⟨a,cap,c16,hv,hc1,hc2,fun w4 v' u4 hv4 hin4=>by
        obtain ⟨hy,hz,O',hp4,hO4,u5⟩:=hre w4 v' u4 hv4 hin4
        exact ⟨hy,hz,O',(n0.grew hb).reseg hp4 hO4 u5 hperm⟩⟩)
  have hbB:b∈B++ [b]:=List.mem_append_right _ (List.mem_singleton.2 rfl)
  have PG':Hid (∀w5 O5,Hn C w O w5 h O5 id p g q own L A (B++ [b]) (R1++R2) Q→Calls Tryz.prog 226 #[.pointer (some ⟨b.sp,0,none⟩)] w5 fun e w'=> ∃a k cap,e= .returned (.slice a k cap)∧k=b.X.L.length∧k≤cap∧cap≤9223372036854775807∧AdR C w h O id p g q own L A (B++ [b]) (R1++R2) Q b.X (.slice a k cap) (.int .i64 0) w'):=Lib.hid fun w5 O5 n5=>
    (C.pages w5 n5.b (n5.z.sg hbB)).mono fun e w' ⟨a,k,cap,k1,k2,k3,k4,k5,k6⟩=>⟨a,k,cap,k1,by have:=k2.len;rw [List.length_map] at this;exact this,k3,k4,0,O5,Nat.zero_le _,rfl,n5.grew k6,k2,by
      rcases k2.blk_lt with x|x
      · exact .inl (List.map_eq_nil_iff.1 x)
      · exact .inr fun k hk=>⟨fun ho=>by
          have:=n5.z.ltO (.inl ho)
          have:=k5 k hk
          omega,x k hk⟩⟩
  have RD:Hid (∀wr O1 (t:Nat) (a:Option Addr) (k cap:Nat) (o:OwR),b.X.L[t]? =some o→Hn C w O wr h O1 id p g q own L A (B++ [b]) (R1++R2) (putAll Q b.X (b.X.L.take t))→Seq Elem.ptrs wr (.slice a k cap) (b.X.L.map fun o=>some ⟨o.op,0,none⟩)→(b.X.L= []∨Away (.slice a k cap) O1 wr)→
      (∃bk off,a=some ⟨bk,off,none⟩∧wr.cell? ⟨bk,off+t,none⟩=some (.pointer (some ⟨o.op,0,none⟩)))∧(∀w2,Below wr.heap.size wr w2→w2.cell? ⟨o.op,1,none⟩=some (.int .i64 o.cls))∧
      (∀w2,Below wr.heap.size wr w2→Calls Tryz.prog 109 #[.pointer (some ⟨h,0,none⟩), .int .i64 o.cls] w2 fun e w'=>e= .returned (.pointer (some ⟨h,qi o.cls,none⟩))∧Below wr.heap.size wr w')∧
      ∀w2,Below wr.heap.size wr w2→Calls Tryz.prog 222 #[.pointer (some ⟨h,qi o.cls,none⟩), .pointer (some ⟨o.op,0,none⟩)] w2 fun e w'=>e= .returned (.tuple #[])∧w'.cell? ⟨o.op,1,none⟩=some (.int .i64 o.cls)∧AdR C w h O id p g q own L A (B++ [b]) (R1++R2) Q b.X (.slice a k cap) (.int .i64 ((t+1:Nat):Int)) w'):=Lib.hid fun wr O1 t a k cap o hot n1 hsq haw=>by
    have ho:=List.mem_of_getElem? hot
    have ht:t<b.X.L.length:=(List.getElem?_eq_some_iff.1 hot).1
    have hs1:=n1.z.sg hbB
    have hcl:=cls_at hs1.good ho
    refine ⟨?_,fun w2 hb2=>((hs1.grew hb2).own o ho).cell 1,fun w2 hb2=>(of_any (LY.below (below_then n1.b n1.b.size hb2)) h hcl.1 hcl.2).mono fun e w' k=>⟨k.1,below_then hb2 hb2.size k.2⟩,fun w2 hb2=> ?_⟩
    · obtain ⟨bk,off,ea,hc⟩:=hsq.elem (i:=t) (x:=some ⟨o.op,0,none⟩) (by rw [List.getElem?_map,hot];rfl)
      refine ⟨bk,off,ea, ?_⟩
      have:=hc 0 (.pointer (some ⟨o.op,0,none⟩)) rfl
      simpa [Elem.ptrs] using this
    · refine (put_page (n1.grew hb2) hbB ho fun i hi=> ?_).mono fun e w' ⟨e1,O',n',kO,kU⟩=> ?_
      · have h1:=putAll_len b.X (b.X.L.take t) Q i
        have h2:=(keys_of z.good i).2
        have h3:(b.X.L.take t).length≤15:=Nat.le_trans (List.length_take_le _ _) (by omega)
        change (Q i).all.length≤1024 at h2
        omega
      · have hbg:=(updFalse_of hb2)
        have hsq2:=hsq.upd hbg fun _ _ x=>x
        have haw2:b.X.L= []∨Away (.slice a k cap) O1 w2:=haw.imp (fun x=>x) fun x=>x.grew hb2
        refine ⟨e1,((n'.z.sg hbB).own o ho).cell 1,t+1,O',ht,rfl, ?_,hsq2.keep (haw2.imp (fun x=>by rw [x];rfl) fun x k hk=>(x k hk).1) kU,haw2.imp (fun x=>x) fun x=>x.step kO kU⟩
        rw [List.take_add_one,hot]
        show Hn C w O w' h O' id p g q own L A (B++ [b]) (R1++R2) (putAll Q b.X (b.X.L.take t++ [o]))
        rw [putAll_app]
        exact n'
  have FIN:Hid (∀wr O1,Hn C w O wr h O1 id p g q own L A (B++ [b]) (R1++R2) (putAll Q b.X b.X.L)→ ∃O',Hz C HpS wr h O' id p g q own L A (B++ [b]) (R1++R2) (putAll Q b.X b.X.L)∧(∀k,O' k→O k∨w.heap.size≤k)∧Upd O w wr):=Lib.hid fun wr O1 n1=>⟨O1,n1.z.to gA,n1.t,n1.u⟩
  show Calls _ _ _ _ fun e w'=>e= .returned (.int .i64 0)∧ ∃O',Hz C HpS w' h O' id p g q own L A (B++ [b]) (R1++R2) (putAll Q b.X b.X.L)∧(∀k,O' k→O k∨w.heap.size≤k)∧Upd O w w'
  obtain ⟨sp,hsp⟩: ∃sp,b.sp=sp:=⟨_,rfl⟩
  obtain ⟨pl,hpl⟩: ∃pl,b.X.pl=pl:=⟨_,rfl⟩
  obtain ⟨m,hm⟩: ∃m,b.X.L.length=m:=⟨_,rfl⟩
  obtain ⟨n,hn⟩: ∃n,B.length=n:=⟨_,rfl⟩
  obtain ⟨Lp,hLp⟩: ∃Lp,(B.map fun b=>b.sp).map spP=Lp:=⟨_,rfl⟩
  have hLl:Lp.length=n:=by rw [←hLp,←hn];simp
  rw [hsp,hpl] at PL
  rw [hpl] at AT
  rw [hsp,hLp,hn] at PU
  rw [hsp,hm] at PG'
  rw [hsp]
  rw [hn] at hlen
  rw [hm] at hcount
  have HM:=Lib.hid hm;have HL:=Lib.hid hLl
  obtain ⟨i0,hi,hz0,hz1,hz2⟩:=info_parts infoPS
  clear hw z hbm hsb hnp hnone gX eA gA hperm n0 hbB hsp hpl hm hn hLp hLl
  go_enter Tryz.func183,Tryz.ntmps183
  go_wp2_with fail
  refine PL.out.mono ?_;rintro e w1 ⟨rfl,hb⟩
  have B1:=Lib.hid hb
  clear hb
  go_wp2_with fail
  refine (AT.out w1 B1.out).mono ?_;rintro e w2 ⟨rfl,hb⟩
  obtain ⟨av,cap,c16,hv,hc1,hc2,hfin⟩:=PU.out w2 (below_then B1.out B1.out.size hb)
  have V:=Lib.hid hv;have FN:=Lib.hid hfin
  clear hb hv hfin PU
  go_wp2_with (at_builtin;refine wpList_append_vec (E:=Elem.ptrs) rfl (.tmp 22) (.tmp 24) 229 rfl 114 i0 (.pointer none) 8 Tryz.underlying229 hi hz0 hz1 hz2 rfl (.slice av n cap) (.slice (some ⟨w2.heap.size,0,none⟩) 1 1) Lp [spP sp] rfl rfl (V.out.alloc _) (Seq.new w2 _ [spP sp] 1) ?_ ?_ ?_;(rw [HL.out];simp only [maxLen,List.length_cons,List.length_nil];omega);(rw [HL.out];simp only [List.length_cons,List.length_nil];omega);intro v8 w8 hv8 hu8 hin8;obtain ⟨⟨y16,d16⟩,z16,ht⟩:=FN.out w8 v8 (((Upd.refl _ w2).alloc _).trans hu8) hv8 (fun k hk=>(hin8 k hk).imp (fun x=>x) (fun x=>by rw [World.size_alloc] at x;omega));obtain ⟨a8,c8,e8,_,_⟩:=hv8.slice';obtain ⟨n8,hn8⟩: ∃n8,(Lp++ [spP sp]).length=n8:=⟨_,rfl⟩;rw [hn8] at e8;subst e8;clear hn8;have T8:=Lib.hid ht;clear hv8 hu8 hin8 ht)
  obtain ⟨O8,hn8⟩:=T8.out
  have K8:=Lib.hid (PG'.out _ _ hn8)
  clear hn8 T8 V FN
  go_wp2_with fail
  refine K8.out.mono ?_;rintro e w9 ⟨a9,k9,c9,rfl,hk9,hk9c,hc9,hi⟩
  subst hk9
  have I1:=Lib.hid hi
  clear hi K8
  go_wp2
  go_loopw [31] (fun i wr=>AdR C w h O id p g q own L A (B++ [b]) (R1++R2) Q b.X (.slice a9 k9 c9) i wr) (fun i _=>k9-(intOf i).toNat)
  case atStart=>exact I1.out
  case round=>
    clear I1
    obtain ⟨t,O1,ht,rfl,hn1,hsq,haw⟩:=hrel
    rw [HM.out] at ht
    by_cases htn:t<k9
    · obtain ⟨o,hot⟩: ∃o,b.X.L[t]? =some o:=⟨_,List.getElem?_eq_getElem (by rw [HM.out];exact htn)⟩
      obtain ⟨⟨bk,off,ea,d0⟩,d1,hof,hpu⟩:=RD.out wr O1 t a9 k9 c9 o hot hn1 hsq haw
      subst ea
      have t2:decide ((t:Int)<(k9:Int))=true:=decide_eq_true (by omega)
      have t2':decide (t<k9)=true:=decide_eq_true htn
      have q3:(0:Int)≤(t:Int):=by omega
      have q4:(t:Int)<(k9:Int):=by omega
      rw [show ((t+1:Nat):Int)=(t:Int)+1 by omega] at hpu
      obtain ⟨op,hop⟩: ∃op,o.op=op:=⟨_,rfl⟩
      obtain ⟨cls,hcls⟩: ∃cls,o.cls=cls:=⟨_,rfl⟩
      rw [hop] at d0
      rw [hop,hcls] at d1 hpu
      rw [hcls] at hof
      have OF:=Lib.hid hof;have PU:=Lib.hid hpu;have D1:=Lib.hid d1
      have BB:=Lib.hid (Below.refl wr.heap.size wr)
      clear hn1 hsq haw hot hof hpu d1 hop hcls RD
      go_wp2
      go_region_held3 (fun w'=>w'.cell? ⟨op,1,none⟩=some (.int .i64 cls)) (first|exact D1.out _ BB.out|exact D1.out _ BB.out.drew|exact C6.out)
        (first
          |(go_at_call 109;(first|(with_reducible refine (OF.out _ BB.out.drew).mono ?_)|(with_reducible refine (OF.out _ BB.out).mono ?_));rintro e w6 ⟨rfl,hb⟩;have BB:=Lib.hid hb;clear hb)
          |(go_at_call 222;(with_reducible refine (PU.out _ BB.out).mono ?_);rintro e w6 ⟨rfl,hc6,hnx⟩;have C6:=Lib.hid hc6;have NX:=Lib.hid hnx;clear hc6 hnx))
      go_wp2
      go_roundw
      case rel=>exact NX.out
      case measure=>simp [intOf];omega
    · obtain rfl:t=k9:=by omega
      have t2:decide ((t:Int)<(t:Int))=false:=decide_eq_false (by omega)
      rw [show b.X.L.take t=b.X.L by rw [←HM.out];exact List.take_length ..] at hn1
      have F9:=Lib.hid (FIN.out _ _ hn1)
      clear hn1 hsq haw
      go_wp2
      go_ret
      exact ⟨rfl,F9.out⟩
end
end Go.Proofs.YtippfeplogkaiaaGreatDoor
namespace Go.Proofs.YtippfeplogkaiaaGreatDoor
open Go.RowKit ListMath PageMath GeoMath SegMath ClassMath HeapMath QueueMath ArenaMath
set_option linter.unusedVariables false
set_option maxRecDepth 100000
section
variable {w0 ws w w' w1:World} {C:SgC w0} {h id p g q:Nat} {O own own' T:Nat→Prop} {L L':List Nat} {A A':St} {B R l r R1 R2:List SB} {b:SB} {Q:Nat→QR}
set_option maxHeartbeats 1000000 in
theorem clone_seg {w:World} {a:Option Addr} {n cap:Nat} {l:List (Option Addr)} (hv:Vec Elem.ptrs w (.slice a n cap) l) (hl:l.length≤64):
    Calls Tryz.prog 235 #[.slice a n cap] w fun e w'=> ∃a' k' c',e= .returned (.slice a' k' c')∧Seq Elem.ptrs w' (.slice a' k' c') l∧k'≤c'∧c'≤9223372036854775807∧(∀b,In (.slice a' k' c') b→w.heap.size≤b)∧Below w.heap.size w w':=by
  have hq: ∀w,(binOp .eql 229 (.slice a n cap) (.slice none 0 0)).run Tryz.prog w= .ok (.bool a.isNone) w:=fun w=>Lib.run_eql_slice_nil w _ _ a n cap 0 0 Tryz.underlying229
  cases a with
  | none=>
    have hl0:l= []:=by
      rcases hv with ⟨_,e⟩|⟨_,_,_,e,_⟩
      · exact e
      · cases e
    subst hl0
    have hq': ∀w,(binOp .eql 229 (.slice none n cap) (.slice none 0 0)).run Tryz.prog w= .ok (.bool true) w:=hq
    clear hv hl hq
    go_enter Tryz.func235,Tryz.ntmps235
    go_wp2
    go_ret
    exact ⟨none,0,0,rfl,Seq.nil _,Nat.le_refl _,by decide,(by intro b hb;cases hb),Below.refl _ _⟩
  | some ad=>
    have hq': ∀w,(binOp .eql 229 (.slice (some ad) n cap) (.slice none 0 0)).run Tryz.prog w= .ok (.bool false) w:=hq
    obtain ⟨i0,hi,hz0,hz1,hz2⟩:=info_parts infoPS
    have V:=Lib.hid hv;have HL:=Lib.hid hl
    clear hv hl hq
    go_enter Tryz.func235,Tryz.ntmps235
    go_wp2_with (at_builtin;refine wpList_append_vec (E:=Elem.ptrs) rfl (.tmp 5) (.tmp 6) 229 rfl 114 i0 (.pointer none) 8 Tryz.underlying229 hi hz0 hz1 hz2 rfl (.slice (some ⟨w.heap.size,0,none⟩) 0 0) (.slice (some ad) n cap) [] l rfl rfl (Vec.new w _) ((V.out.seq).alloc _) ?_ ?_ ?_;(have:=HL.out;simp only [maxLen,List.length_nil];omega);(have:=HL.out;simp only [List.length_nil];omega);intro v8 w8 hv8 hu8 hin8;obtain ⟨a8,c8,e8,hc8,hd8⟩:=hv8.slice';have V8:=Lib.hid hv8;have N8:=Lib.hid hin8;have B8:=Lib.hid (((Below.refl _ w).alloc (Nat.le_refl _) (.cells #[] 114)).trans (hu8.below (B:=w.heap.size) (fun k hk=>by have e:=in_blk hk;omega) (by rw [World.size_alloc];omega)));clear hv8 hu8 hin8)
    rw [List.nil_append] at e8 hc8 V8
    subst e8
    go_ret
    refine ⟨a8,l.length,c8,rfl,V8.out.seq,hc8,hd8,fun b hb=> ?_,B8.out⟩
    · rcases N8.out b hb with x|x
      · have e:=in_blk x;omega
      · rw [World.size_alloc] at x;omega
theorem hp_segs (hw:Below w0.heap.size w0 w) (z:Hz C HpS w h O id p g q own L A B R Q):
    Calls Tryz.prog 193 #[.pointer (some ⟨h,0,none⟩)] w fun e w'=> ∃a k cap,e= .returned (.slice a k cap)∧Seq Elem.ptrs w' (.slice a k cap) (B.map fun b=>some ⟨b.sp,0,none⟩)∧k≤cap∧cap≤9223372036854775807∧(∀b,In (.slice a k cap) b→w.heap.size≤b)∧Below w.heap.size w w':=by
  obtain ⟨v,c16,z16,hv,hin,hre⟩:=z.hp.reseg
  have hlen:B.length≤64:=pls_len (Hr.of z).pls fun b hb=>((Hr.of z).sg hb).pl
  obtain ⟨a,cap,rfl,h1,h2⟩:=hv.slice'
  have el:(((sgsOf B).map fun s=>s.1).map fun s=>(some ⟨s,0,none⟩:Option Addr))=B.map fun b=>some ⟨b.sp,0,none⟩:=by rw [sps_of,List.map_map];rfl
  rw [el] at c16 hv
  obtain ⟨n,hn⟩: ∃n,(B.map fun b=>(some ⟨b.sp,0,none⟩:Option Addr)).length=n:=⟨_,rfl⟩
  rw [hn] at c16 hv
  have K:=Lib.hid (clone_seg hv (by rw [List.length_map];exact hlen))
  clear hre hin z16 hv hw z el h1 hn
  go_enter Tryz.func193,Tryz.ntmps193
  go_wp2_with fail
  refine K.out.mono ?_;rintro e w1 ⟨a',k',c',rfl,hr⟩
  have HR:=Lib.hid hr
  clear hr c16
  go_wp2
  go_ret
  exact ⟨a',k',c',rfl,HR.out⟩
def pgsOf1 (H:HS) (c:Int):List Nat:=if okC c then (H.Q (qi c)).all.map pageAt else []
theorem pagesOf_take {H:HS} {ds:List Int} {t:Nat} {c:Int} (h:ds[t]? =some c):pagesOf H (ds.take (t+1))=pagesOf H (ds.take t)++pgsOf1 H c:=by
  unfold pagesOf pgsOf1
  rw [List.take_add_one,h,List.flatMap_append]
  simp
theorem pgsOf1_len {H:HS} (g:GoodH H) (c:Int):(pgsOf1 H c).length≤1024:=by
  unfold pgsOf1
  split
  · rw [List.length_map];exact q_len g _
  · exact Nat.zero_le _
theorem pagesOf_len {H:HS} (g:GoodH H): ∀cs:List Int,(pagesOf H cs).length≤cs.length*1024
  | []=>Nat.le_refl _
  | c::t=>by
    have h1:=pagesOf_len g t
    have h2:=pgsOf1_len g c
    show (pgsOf1 H c++pagesOf H t).length≤_
    rw [List.length_append,List.length_cons];omega
theorem all_pages (LY:Lay w0) (hw:Below w0.heap.size w0 w) (z:Hz C HpS w h O id p g q own L A B R Q) {c:Int} (hc:I64B c) {w2:World} (hb2:Below w.heap.size w w2):
    Calls Tryz.prog 109 #[.pointer (some ⟨h,0,none⟩), .int .i64 c] w2 fun e w3=> ∃b o,e= .returned (.pointer (some ⟨b,o,none⟩))∧Below w2.heap.size w2 w3∧
      Calls Tryz.prog 110 #[.pointer (some ⟨b,o,none⟩)] w3 fun e2 w4=> ∃a k cap,∃l:List Int,e2= .returned (.slice a k cap)∧k=l.length∧Arr w4 (.slice a k cap) l∧(∀x∈l,0≤x∧x≤1048576)∧pgsOf1 (hsOf B Q) c=l.map (fun x=>x.toNat)∧k≤cap∧cap≤9223372036854775807∧(∀x,In (.slice a k cap) x→x<w4.heap.size∧w3.heap.size≤x)∧Below w3.heap.size w3 w4:=by
  by_cases hok: -1≤c∧c≤11
  · refine (of_any (LY.below (below_then hw hw.size hb2)) h hok.1 hok.2).mono fun e w3 ⟨e1,hb3⟩=>⟨h,qi c,e1,hb3, ?_⟩
    have hq:=qi_13 hok.1 hok.2
    have n0:=(Hn.start (T:=O) hw (Hr.of z) fun k hk=>hk).grew (below_then hb2 hb2.size hb3)
    obtain ⟨rr,OQ,k1,k2,k3,k4⟩:=n0.queue hq
    have hk:=keys_of z.good (qi c)
    change (∀k∈(Q (qi c)).all,0≤k∧k≤1023)∧(Q (qi c)).all.length≤1024 at hk
    refine (qp_all w3 k1 (by rw [up_all,List.length_map];show _≤1000000;omega)).mono fun e2 w4 ⟨v,e2',⟨ha,hv⟩,hin,hb4⟩=> ?_
    obtain ⟨a,cap,rfl,h1,h2⟩:=ha.out
    refine ⟨a,_,cap,(up (Q (qi c))).all,e2',rfl,ha,fun x hx=> ?_, ?_,h1,h2,fun x hx=>⟨hv.lt hx,hin x hx⟩,hb4⟩
    · rw [up_all] at hx
      obtain ⟨y,hy,rfl⟩:=List.mem_map.1 hx
      have:=hk.1 y hy
      exact ⟨by show 0≤y*1024;omega,by show y*1024≤1048576;omega⟩
    · have e3:okC c=true:=by unfold okC;simp [hok.1,hok.2]
      unfold pgsOf1
      rw [if_pos e3,up_all,List.map_map]
      refine List.map_congr_left fun y hy=> ?_
      have:=hk.1 y hy
      show y.toNat*1024=(y*1024).toNat
      omega
  · refine (of_none (LY.below (below_then hw hw.size hb2)) h hc (by omega)).mono fun e w3 ⟨b,e1,hbb,hB,hb3⟩=>⟨b,0,e1,hb3, ?_⟩
    have hq:QuP w3 b 0 none (fun _=>False) q0:=⟨⟨_,_,hB,rfl⟩, .inl ⟨rfl,rfl⟩,fun x=>x,fun k x=>x.elim,fun x hx=>by cases hx⟩
    refine (qp_all w3 hq (by decide)).mono fun e2 w4 ⟨v,e2',⟨ha,hv⟩,hin,hb4⟩=> ?_
    obtain ⟨a,cap,rfl,h1,h2⟩:=ha.out
    refine ⟨a,_,cap, [],e2',rfl,ha,fun x hx=>(by cases hx), ?_,h1,h2,fun x hx=>⟨hv.lt hx,hin x hx⟩,hb4⟩
    have e3:okC c=false:=by unfold okC;simp;omega
    unfold pgsOf1
    rw [if_neg (by rw [e3];simp)];rfl
def PgO (w:World) (H:HS) (ds:List Int) (v acc i:Value) (wr:World):Prop:=
  ∃t:Nat,t≤ds.length∧i= .int .i64 (t:Int)∧Arr wr v ds∧Vec Elem.u64s wr acc (pagesOf H (ds.take t))∧(∀k,In acc k→w.heap.size≤k)∧(ds= []∨ ∀k,In v k→k<wr.heap.size∧ ¬In acc k)∧Below w.heap.size w wr
def PgI (w:World) (H:HS) (ds:List Int) (v:Value) (t:Nat) (v2:Value) (l:List Int) (acc i:Value) (wr:World):Prop:=
  ∃j:Nat,j≤l.length∧i= .int .i64 (j:Int)∧Arr wr v ds∧Arr wr v2 l∧Vec Elem.u64s wr acc (pagesOf H (ds.take t)++(l.take j).map fun x=>x.toNat)∧(∀k,In acc k→w.heap.size≤k)∧(ds= []∨ ∀k,In v k→k<wr.heap.size∧ ¬In acc k)∧(∀k,In v2 k→k<wr.heap.size∧ ¬In acc k)∧Below w.heap.size w wr
end
end Go.Proofs.YtippfeplogkaiaaGreatDoor
namespace Go.Proofs.YtippfeplogkaiaaGreatDoor
open Go.RowKit ListMath PageMath GeoMath SegMath ClassMath HeapMath QueueMath ArenaMath
set_option linter.unusedVariables false
set_option maxRecDepth 100000
section
variable {w0 ws w w' w1:World} {C:SgC w0} {h id p g q:Nat} {O own own' T:Nat→Prop} {L L':List Nat} {A A':St} {B R l r R1 R2:List SB} {b:SB} {Q:Nat→QR}
set_option maxHeartbeats 8000000 in
theorem hp_pages (LY:Lay w0) (hw:Below w0.heap.size w0 w) (z:Hz C HpS w h O id p g q own L A B R Q) {v:Value} {cs:List Int} (hv:Arr w v cs) (hl:cs.length≤1000):
    Calls Tryz.prog 61 #[.pointer (some ⟨h,0,none⟩),v] w fun e w'=> ∃a k cap,e= .returned (.slice a k cap)∧Seq Elem.u64s w' (.slice a k cap) (pagesH (hsOf B Q) cs)∧k≤cap∧cap≤9223372036854775807∧(∀b,In (.slice a k cap) b→w.heap.size≤b)∧Below w.heap.size w w':=by
  obtain ⟨i0,hi,hz0,hz1,hz2⟩:=info_parts infoU64
  obtain ⟨av,cv,rfl,hcv1,hcv2⟩:=hv.out
  have AP:=Lib.hid (fun c (hc:I64B c) w2 (hb:Below w.heap.size w w2)=>all_pages LY hw z hc hb)
  have GD:=Lib.hid z.good
  obtain ⟨H,hH⟩: ∃H,hsOf B Q=H:=⟨_,rfl⟩
  rw [hH] at AP GD⊢
  by_cases hcs:cs= []
  · subst hcs
    have EV:=Lib.hid (every_any w)
    have hpg:pagesH H []=pagesOf H allC:=rfl
    rw [hpg]
    obtain ⟨D,hD⟩: ∃D,allC=D:=⟨_,rfl⟩
    rw [hD] at EV⊢
    have DL:=Lib.hid (show D.length=13 by rw [←hD];rfl)
    have D64:=Lib.hid (show ∀x∈D,I64 x by rw [←hD];exact allC_64)
    clear hw z hv hl LY hH hpg hD
    go_enter Tryz.func61,Tryz.ntmps61
    go_wp2_with fail
    refine EV.out.mono ?_;rintro e w1 ⟨v1,rfl,hv1,hin1,hb1⟩
    have hav:=hv1.arr D64.out
    obtain ⟨a1,c1,rfl,hc1,hc2⟩:=hav.out
    rw [DL.out] at hc1 hav hv1 hin1⊢
    obtain ⟨n,hn⟩: ∃n,(13:Nat)=n:=⟨_,rfl⟩
    rw [hn] at hc1 hav hv1 hin1 DL⊢
    have hn1000:n≤1000:=by omega
    have I0:=Lib.hid (show PgO w H D (.slice a1 n c1) (.slice none 0 0) (.int .i64 0) w1 from ⟨0,Nat.zero_le _,rfl,hav,Vec.nil _,(by intro k hk;cases hk), .inr fun k hk=>⟨hv1.lt hk,fun x=>by cases x⟩,hb1⟩)
    clear hav hv1 hin1 hb1 hn
    go_wp2
    go_loopw [5,18] (fun acc i wr=>PgO w H D (.slice a1 n c1) acc i wr) (fun _ i _=>n-(intOf i).toNat)
    case atStart=>exact I0.out
    case round=>
      clear I0
      obtain ⟨t,ht,rfl,hav,hacc,hain,hsep,hb⟩:=hrel
      rw [DL.out] at ht
      by_cases htn:t<n
      · obtain ⟨bk,off,y,ea,hy,hym,hy64,d0⟩:=hav.at (t:=t) (by rw [DL.out];exact htn)
        subst ea
        have K1:=AP.out y ⟨hy64.1,hy64.2⟩ wr hb
        have t2:decide ((t:Int)<(n:Int))=true:=decide_eq_true (by omega)
        have t2':decide (t<n)=true:=decide_eq_true htn
        have q3:(0:Int)≤(t:Int):=by omega
        have q4:(t:Int)<(n:Int):=by omega
        obtain ⟨aa,ca,rfl,hca1,hca2⟩:=hacc.slice'
        have hplen:=pagesOf_len GD.out (D.take t)
        have htake:(D.take t).length≤1000:=Nat.le_trans (List.length_take_le _ _) (by omega)
        obtain ⟨P,hP⟩: ∃P,pagesOf H (D.take t)=P:=⟨_,rfl⟩
        rw [hP] at hacc hain hsep hca1 hplen⊢
        obtain ⟨np,hnp⟩: ∃np,P.length=np:=⟨_,rfl⟩
        rw [hnp] at hacc hain hsep hca1 hplen⊢
        have I1:Hid (∀w3 w4 a k cap (l:List Int),Below wr.heap.size wr w3→Arr w4 (.slice a k cap) l→(∀x,In (.slice a k cap) x→x<w4.heap.size∧w3.heap.size≤x)→Below w3.heap.size w3 w4→PgI w H D (.slice (some ⟨bk,off,none⟩) n c1) t (.slice a k cap) l (.slice aa np ca) (.int .i64 0) w4):=Lib.hid fun w3 w4 a k cap l h1 h2 h3 h4=>by
          have h5:=below_then h1 h1.size h4
          have hlta: ∀k,In (.slice aa np ca) k→k<wr.heap.size:=fun k hk=>hacc.lt hk
          refine ⟨0,Nat.zero_le _,rfl,hav.grew h5,h2, ?_,hain,hsep.imp (fun x=>x) fun x k hk=>⟨Nat.lt_of_lt_of_le (x k hk).1 h5.size,(x k hk).2⟩,fun k hk=>⟨(h3 k hk).1,fun ha=> ?_⟩,below_then hb hb.size h5⟩
          · rw [hP]
            have h6:=hacc.upd (updFalse_of h5) fun _ _ x=>x
            simpa using h6
          · have:=(h3 k hk).2
            have:=hlta k ha
            have:=h1.size
            omega
        have HY:=Lib.hid hy;have HP:=Lib.hid hP;have HNP:=Lib.hid hnp
        have HPL:=Lib.hid (show np≤1024000 by omega)
        have KK:=Lib.hid K1
        have BW:=Lib.hid hb
        clear hav hacc hain hsep hb hy hym hy64 K1 hP hnp hplen htake
        go_wp2_with fail
        refine KK.out.mono ?_;rintro e w3 ⟨qb,qo,rfl,hb3,hal⟩
        have B3:=Lib.hid hb3;have AL:=Lib.hid hal
        clear hb3 hal KK d0
        go_wp2_with fail
        refine AL.out.mono ?_;rintro e w4 ⟨a2,m,c2,l,rfl,hm,ha2,hr2,hpg2,hm1,hm2,hin2,hb4⟩
        have I2:=Lib.hid (I1.out w3 w4 a2 m c2 l B3.out ha2 hin2 hb4)
        have HR:=Lib.hid hr2;have HPG:=Lib.hid hpg2;have HML:=Lib.hid hm
        have hm1024:m≤1024:=by
          have h1:=pgsOf1_len GD.out y
          rw [hpg2,List.length_map] at h1
          omega
        clear ha2 hr2 hpg2 hm hin2 hb4 AL I1 B3
        go_wp2
        go_loopw [5,31] (fun acc i wr=>PgI w H D (.slice (some ⟨bk,off,none⟩) n c1) t (.slice a2 m c2) l acc i wr) (fun _ i _=>m-(intOf i).toNat)
        case atStart=>exact I2.out
        case round=>
          clear I2 BW HNP
          obtain ⟨j,hj,rfl,hav,ha2,hacc,hain,hsep,hsep2,hb⟩:=hrel
          rw [←HML.out] at hj
          by_cases hjm:j<m
          · obtain ⟨bk2,off2,x,ea,hx,hxm,hx64,d2⟩:=ha2.at (t:=j) (by rw [←HML.out];exact hjm)
            subst ea
            obtain ⟨xn,hxn⟩:=Int.eq_ofNat_of_zero_le (HR.out x hxm).1
            have hxn2:xn≤1048576:=by have:=(HR.out x hxm).2;omega
            subst hxn
            have t4:decide ((j:Int)<(m:Int))=true:=decide_eq_true (by omega)
            have t4':decide (j<m)=true:=decide_eq_true hjm
            have q5:(0:Int)≤(j:Int):=by omega
            have q6:(j:Int)<(m:Int):=by omega
            have wX:IntKind.u64.wrap (xn:Int)=(xn:Int):=IntWalk.u64_in _ ⟨by omega,by omega⟩
            obtain ⟨ab,cb,rfl,hcb1,hcb2⟩:=hacc.slice'
            obtain ⟨P2,hP2⟩: ∃P2,pagesOf H (D.take t)++(l.take j).map (fun x=>x.toNat)=P2:=⟨_,rfl⟩
            obtain ⟨n2,hn2⟩: ∃n2,P2.length=n2:=⟨_,rfl⟩
            have hn2b:n2≤1025024:=by
              rw [←hn2,←hP2,List.length_append,List.length_map]
              have h1:=pagesOf_len GD.out (D.take t)
              have h2:(D.take t).length≤1000:=Nat.le_trans (List.length_take_le _ _) (by have:=DL.out;omega)
              have h3:(l.take j).length≤j:=List.length_take_le _ _
              omega
            rw [hP2] at hacc hain hsep hsep2 hcb1⊢
            rw [hn2] at hacc hain hsep hsep2 hcb1⊢
            have NX:Hid (∀w8 v8,Vec Elem.u64s w8 v8 (P2++ [xn])→Upd (In (.slice ab n2 cb)) (wr.alloc (.cells #[.int .u64 (xn:Int)] 36)) w8→(∀k,In v8 k→In (.slice ab n2 cb) k∨(wr.alloc (.cells #[.int .u64 (xn:Int)] 36)).heap.size≤k)→PgI w H D (.slice (some ⟨bk,off,none⟩) n c1) t (.slice (some ⟨bk2,off2,none⟩) m c2) l v8 (.int .i64 ((j+1:Nat):Int)) w8):=Lib.hid fun w8 v8 h1 h2 h3=>by
              have u8:=((Upd.refl (In (.slice ab n2 cb)) wr).alloc (.cells #[.int .u64 (xn:Int)] 36)).trans h2
              have hsz:wr.heap.size≤(wr.alloc (.cells #[.int .u64 (xn:Int)] 36)).heap.size:=by rw [World.size_alloc];omega
              have hnew: ∀{v':Value},(∀k,In v' k→k<wr.heap.size∧ ¬In (.slice ab n2 cb) k)→ ∀k,In v' k→k<w8.heap.size∧ ¬In v8 k:=fun hh k hk=>⟨Nat.lt_of_lt_of_le (hh k hk).1 u8.size,fun h9=>by
                rcases h3 k h9 with x|x
                · exact (hh k hk).2 x
                · have:=(hh k hk).1;omega⟩
              refine ⟨j+1,by rw [←HML.out];exact hjm,rfl,hav.updA u8 (hsep.imp (fun x=>x) fun x k hk=>(x k hk).2),ha2.upd u8 (fun k hk=>(hsep2 k hk).2), ?_,fun k hk=> ?_,hsep.imp (fun x=>x) fun x=>hnew x,hnew hsep2,hb.trans (u8.below hain hb.size)⟩
              · rw [List.take_add_one,hx,List.map_append,←List.append_assoc,hP2]
                exact h1
              · rcases h3 k hk with x|x
                · exact hain k x
                · have:=hb.size;omega
            rw [show ((j+1:Nat):Int)=(j:Int)+1 by omega] at NX
            have V:=Lib.hid hacc;have HN2:=Lib.hid hn2
            clear hav ha2 hacc hain hsep hsep2 hb hx hxm hx64 hP2 hn2
            go_wp2_with (at_builtin;refine wpList_append_vec (E:=Elem.u64s) rfl (.tmp 35) (.tmp 38) 127 rfl 36 i0 (.int .u64 0) 8 Tryz.underlying127 hi hz0 hz1 hz2 rfl (.slice ab n2 cb) (.slice (some ⟨wr.heap.size,0,none⟩) 1 1) P2 [xn] rfl rfl (V.out.alloc _) (u64_oneAt wr _ xn _ rfl) ?_ ?_ ?_;(rw [HN2.out];simp only [maxLen,List.length_cons,List.length_nil];omega);(rw [HN2.out];simp only [List.length_cons,List.length_nil];omega);intro v8 w8 hv8 hu8 hin8;have K8:=Lib.hid (NX.out w8 v8 hv8 hu8 hin8);clear hv8 hu8 hin8)
            go_roundw
            case rel=>exact K8.out
            case measure=>simp [intOf];omega
          · obtain rfl:j=m:=by omega
            have t4:decide ((j:Int)<(j:Int))=false:=decide_eq_false (by omega)
            rw [show l.take j=l by rw [HML.out];exact List.take_length ..,←HPG.out,←pagesOf_take HY.out] at hacc
            have NX:Hid (PgO w H D (.slice (some ⟨bk,off,none⟩) n c1) u5 (.int .i64 ((t+1:Nat):Int)) wr):=Lib.hid ⟨t+1,by rw [DL.out];exact htn,rfl,hav,hacc,hain,hsep,hb⟩
            rw [show ((t+1:Nat):Int)=(t:Int)+1 by omega] at NX
            clear hav ha2 hacc hain hsep hsep2 hb
            go_wp2
            go_roundw
            case rel=>exact NX.out
            case measure=>simp [intOf];omega
      · obtain rfl:t=n:=by omega
        have t2:decide ((t:Int)<(t:Int))=false:=decide_eq_false (by omega)
        rw [show D.take t=D by rw [←DL.out];exact List.take_length ..] at hacc
        obtain ⟨aa,ca,rfl,hca1,hca2⟩:=hacc.slice'
        have F:=Lib.hid (And.intro hacc.seq (And.intro hca1 (And.intro hca2 (And.intro hain hb))))
        clear hav hacc hain hsep hb
        go_wp2
        go_ret
        exact ⟨_,_,_,rfl,F.out.1,F.out.2.1,F.out.2.2.1,F.out.2.2.2.1,F.out.2.2.2.2⟩
  · have hpg:pagesH H cs=pagesOf H cs:=by unfold pagesH;rw [if_neg hcs]
    rw [hpg]
    obtain ⟨n,hn⟩: ∃n,cs.length=n:=⟨_,rfl⟩
    have hn0:n≠0:=by rw [←hn];intro e;exact hcs (List.length_eq_zero_iff.1 e)
    rw [hn] at hv hl hcv1⊢
    have t0:((n:Int)==0)=false:=by rw [beq_eq_false_iff_ne];omega
    have DL:=Lib.hid hn
    obtain ⟨D,hD⟩: ∃D,cs=D:=⟨_,rfl⟩
    subst hD
    obtain ⟨D,rfl⟩: ∃D,cs=D:=⟨_,rfl⟩
    have hn1000:n≤1000:=hl
    obtain ⟨a1,rfl⟩: ∃a1,av=a1:=⟨_,rfl⟩
    obtain ⟨c1,rfl⟩: ∃c1,cv=c1:=⟨_,rfl⟩
    have hlt:cs= []∨ ∀k,In (.slice av n cv) k→k<w.heap.size:=hv.lt
    have I0:=Lib.hid (show PgO w H cs (.slice av n cv) (.slice none 0 0) (.int .i64 0) w from ⟨0,Nat.zero_le _,rfl,hv,Vec.nil _,(by intro k hk;cases hk),hlt.imp (fun x=>x) fun x k hk=>⟨x k hk,fun y=>by cases y⟩,Below.refl _ _⟩)
    clear hw z hv hl LY hH hpg hcs hn hlt
    go_enter Tryz.func61,Tryz.ntmps61
    go_wp2
    go_loopw [5,18] (fun acc i wr=>PgO w H cs (.slice av n cv) acc i wr) (fun _ i _=>n-(intOf i).toNat)
    case atStart=>exact I0.out
    case round=>
      clear I0
      obtain ⟨t,ht,rfl,hav,hacc,hain,hsep,hb⟩:=hrel
      rw [DL.out] at ht
      by_cases htn:t<n
      · obtain ⟨bk,off,y,ea,hy,hym,hy64,d0⟩:=hav.at (t:=t) (by rw [DL.out];exact htn)
        subst ea
        have K1:=AP.out y ⟨hy64.1,hy64.2⟩ wr hb
        have t2:decide ((t:Int)<(n:Int))=true:=decide_eq_true (by omega)
        have t2':decide (t<n)=true:=decide_eq_true htn
        have q3:(0:Int)≤(t:Int):=by omega
        have q4:(t:Int)<(n:Int):=by omega
        obtain ⟨aa,ca,rfl,hca1,hca2⟩:=hacc.slice'
        have hplen:=pagesOf_len GD.out (cs.take t)
        have htake:(cs.take t).length≤1000:=Nat.le_trans (List.length_take_le _ _) (by omega)
        obtain ⟨P,hP⟩: ∃P,pagesOf H (cs.take t)=P:=⟨_,rfl⟩
        rw [hP] at hacc hain hsep hca1 hplen⊢
        obtain ⟨np,hnp⟩: ∃np,P.length=np:=⟨_,rfl⟩
        rw [hnp] at hacc hain hsep hca1 hplen⊢
        have I1:Hid (∀w3 w4 a k cap (l:List Int),Below wr.heap.size wr w3→Arr w4 (.slice a k cap) l→(∀x,In (.slice a k cap) x→x<w4.heap.size∧w3.heap.size≤x)→Below w3.heap.size w3 w4→PgI w H cs (.slice (some ⟨bk,off,none⟩) n cv) t (.slice a k cap) l (.slice aa np ca) (.int .i64 0) w4):=Lib.hid fun w3 w4 a k cap l h1 h2 h3 h4=>by
          have h5:=below_then h1 h1.size h4
          have hlta: ∀k,In (.slice aa np ca) k→k<wr.heap.size:=fun k hk=>hacc.lt hk
          refine ⟨0,Nat.zero_le _,rfl,hav.grew h5,h2, ?_,hain,hsep.imp (fun x=>x) fun x k hk=>⟨Nat.lt_of_lt_of_le (x k hk).1 h5.size,(x k hk).2⟩,fun k hk=>⟨(h3 k hk).1,fun ha=> ?_⟩,below_then hb hb.size h5⟩
          · rw [hP]
            have h6:=hacc.upd (updFalse_of h5) fun _ _ x=>x
            simpa using h6
          · have:=(h3 k hk).2
            have:=hlta k ha
            have:=h1.size
            omega
        have HY:=Lib.hid hy;have HP:=Lib.hid hP;have HNP:=Lib.hid hnp
        have HPL:=Lib.hid (show np≤1024000 by omega)
        have KK:=Lib.hid K1
        have BW:=Lib.hid hb
        clear hav hacc hain hsep hb hy hym hy64 K1 hP hnp hplen htake
        go_wp2_with fail
        refine KK.out.mono ?_;rintro e w3 ⟨qb,qo,rfl,hb3,hal⟩
        have B3:=Lib.hid hb3;have AL:=Lib.hid hal
        clear hb3 hal KK d0
        go_wp2_with fail
        refine AL.out.mono ?_;rintro e w4 ⟨a2,m,c2,l,rfl,hm,ha2,hr2,hpg2,hm1,hm2,hin2,hb4⟩
        have I2:=Lib.hid (I1.out w3 w4 a2 m c2 l B3.out ha2 hin2 hb4)
        have HR:=Lib.hid hr2;have HPG:=Lib.hid hpg2;have HML:=Lib.hid hm
        have hm1024:m≤1024:=by
          have h1:=pgsOf1_len GD.out y
          rw [hpg2,List.length_map] at h1
          omega
        clear ha2 hr2 hpg2 hm hin2 hb4 AL I1 B3
        go_wp2
        go_loopw [5,31] (fun acc i wr=>PgI w H cs (.slice (some ⟨bk,off,none⟩) n cv) t (.slice a2 m c2) l acc i wr) (fun _ i _=>m-(intOf i).toNat)
        case atStart=>exact I2.out
        case round=>
          clear I2 BW HNP
          obtain ⟨j,hj,rfl,hav,ha2,hacc,hain,hsep,hsep2,hb⟩:=hrel
          rw [←HML.out] at hj
          by_cases hjm:j<m
          · obtain ⟨bk2,off2,x,ea,hx,hxm,hx64,d2⟩:=ha2.at (t:=j) (by rw [←HML.out];exact hjm)
            subst ea
            obtain ⟨xn,hxn⟩:=Int.eq_ofNat_of_zero_le (HR.out x hxm).1
            have hxn2:xn≤1048576:=by have:=(HR.out x hxm).2;omega
            subst hxn
            have t4:decide ((j:Int)<(m:Int))=true:=decide_eq_true (by omega)
            have t4':decide (j<m)=true:=decide_eq_true hjm
            have q5:(0:Int)≤(j:Int):=by omega
            have q6:(j:Int)<(m:Int):=by omega
            have wX:IntKind.u64.wrap (xn:Int)=(xn:Int):=IntWalk.u64_in _ ⟨by omega,by omega⟩
            obtain ⟨ab,cb,rfl,hcb1,hcb2⟩:=hacc.slice'
            obtain ⟨P2,hP2⟩: ∃P2,pagesOf H (cs.take t)++(l.take j).map (fun x=>x.toNat)=P2:=⟨_,rfl⟩
            obtain ⟨n2,hn2⟩: ∃n2,P2.length=n2:=⟨_,rfl⟩
            have hn2b:n2≤1025024:=by
              rw [←hn2,←hP2,List.length_append,List.length_map]
              have h1:=pagesOf_len GD.out (cs.take t)
              have h2:(cs.take t).length≤1000:=Nat.le_trans (List.length_take_le _ _) (by have:=DL.out;omega)
              have h3:(l.take j).length≤j:=List.length_take_le _ _
              omega
            rw [hP2] at hacc hain hsep hsep2 hcb1⊢
            rw [hn2] at hacc hain hsep hsep2 hcb1⊢
            have NX:Hid (∀w8 v8,Vec Elem.u64s w8 v8 (P2++ [xn])→Upd (In (.slice ab n2 cb)) (wr.alloc (.cells #[.int .u64 (xn:Int)] 36)) w8→(∀k,In v8 k→In (.slice ab n2 cb) k∨(wr.alloc (.cells #[.int .u64 (xn:Int)] 36)).heap.size≤k)→PgI w H cs (.slice (some ⟨bk,off,none⟩) n cv) t (.slice (some ⟨bk2,off2,none⟩) m c2) l v8 (.int .i64 ((j+1:Nat):Int)) w8):=Lib.hid fun w8 v8 h1 h2 h3=>by
              have u8:=((Upd.refl (In (.slice ab n2 cb)) wr).alloc (.cells #[.int .u64 (xn:Int)] 36)).trans h2
              have hsz:wr.heap.size≤(wr.alloc (.cells #[.int .u64 (xn:Int)] 36)).heap.size:=by rw [World.size_alloc];omega
              have hnew: ∀{v':Value},(∀k,In v' k→k<wr.heap.size∧ ¬In (.slice ab n2 cb) k)→ ∀k,In v' k→k<w8.heap.size∧ ¬In v8 k:=fun hh k hk=>⟨Nat.lt_of_lt_of_le (hh k hk).1 u8.size,fun h9=>by
                rcases h3 k h9 with x|x
                · exact (hh k hk).2 x
                · have:=(hh k hk).1;omega⟩
              refine ⟨j+1,by rw [←HML.out];exact hjm,rfl,hav.updA u8 (hsep.imp (fun x=>x) fun x k hk=>(x k hk).2),ha2.upd u8 (fun k hk=>(hsep2 k hk).2), ?_,fun k hk=> ?_,hsep.imp (fun x=>x) fun x=>hnew x,hnew hsep2,hb.trans (u8.below hain hb.size)⟩
              · rw [List.take_add_one,hx,List.map_append,←List.append_assoc,hP2]
                exact h1
              · rcases h3 k hk with x|x
                · exact hain k x
                · have:=hb.size;omega
            rw [show ((j+1:Nat):Int)=(j:Int)+1 by omega] at NX
            have V:=Lib.hid hacc;have HN2:=Lib.hid hn2
            clear hav ha2 hacc hain hsep hsep2 hb hx hxm hx64 hP2 hn2
            go_wp2_with (at_builtin;refine wpList_append_vec (E:=Elem.u64s) rfl (.tmp 35) (.tmp 38) 127 rfl 36 i0 (.int .u64 0) 8 Tryz.underlying127 hi hz0 hz1 hz2 rfl (.slice ab n2 cb) (.slice (some ⟨wr.heap.size,0,none⟩) 1 1) P2 [xn] rfl rfl (V.out.alloc _) (u64_oneAt wr _ xn _ rfl) ?_ ?_ ?_;(rw [HN2.out];simp only [maxLen,List.length_cons,List.length_nil];omega);(rw [HN2.out];simp only [List.length_cons,List.length_nil];omega);intro v8 w8 hv8 hu8 hin8;have K8:=Lib.hid (NX.out w8 v8 hv8 hu8 hin8);clear hv8 hu8 hin8)
            go_roundw
            case rel=>exact K8.out
            case measure=>simp [intOf];omega
          · obtain rfl:j=m:=by omega
            have t4:decide ((j:Int)<(j:Int))=false:=decide_eq_false (by omega)
            rw [show l.take j=l by rw [HML.out];exact List.take_length ..,←HPG.out,←pagesOf_take HY.out] at hacc
            have NX:Hid (PgO w H cs (.slice (some ⟨bk,off,none⟩) n cv) u5 (.int .i64 ((t+1:Nat):Int)) wr):=Lib.hid ⟨t+1,by rw [DL.out];exact htn,rfl,hav,hacc,hain,hsep,hb⟩
            rw [show ((t+1:Nat):Int)=(t:Int)+1 by omega] at NX
            clear hav ha2 hacc hain hsep hsep2 hb
            go_wp2
            go_roundw
            case rel=>exact NX.out
            case measure=>simp [intOf];omega
      · obtain rfl:t=n:=by omega
        have t2:decide ((t:Int)<(t:Int))=false:=decide_eq_false (by omega)
        rw [show cs.take t=cs by rw [←DL.out];exact List.take_length ..] at hacc
        obtain ⟨aa,ca,rfl,hca1,hca2⟩:=hacc.slice'
        have F:=Lib.hid (And.intro hacc.seq (And.intro hca1 (And.intro hca2 (And.intro hain hb))))
        clear hav hacc hain hsep hb
        go_wp2
        go_ret
        exact ⟨_,_,_,rfl,F.out.1,F.out.2.1,F.out.2.2.1,F.out.2.2.2.1,F.out.2.2.2.2⟩
end
end Go.Proofs.YtippfeplogkaiaaGreatDoor
namespace Go.Proofs.YtippfeplogkaiaaGreatDoor
open Go.RowKit ListMath PageMath GeoMath SegMath ClassMath HeapMath QueueMath ArenaMath
set_option linter.unusedVariables false
def hpc (w0:World) (LY:Lay w0) (C:SgC w0):HpC w0 C where
  Hp:=HpS
  skel h e:=h.skel e
  upd h u hT:=h.upd u hT
  num h:=h.num
  new w _ {p q id} h1 h2:=hp_new w h1 h2
  grow_nil w _:=hp_grow_nil w
  local' w hw {_ _ _ _ _ _ _ _ _ _ _ _ _} z hc:=hp_local LY hw z hc
  fresh_bad w hw {_ _ _ _ _ _ _ _ _ _ _ _ _ _ _ _} z hc hs _ _ hb:=hp_fresh_bad LY hw hc hs hb
  fresh_full w hw {h O id p g q own L A B R Q c sl sg us} z hc hs _ _ hb hr:=by
    have k:=hp_fresh_ok (sg:=sg) (us:=us) LY hw z hc hs hb
    unfold FrPost at k
    rw [hr] at k
    exact k
  fresh w hw {h O id p g q own L A B R Q c sl sg us a X} z hc hs _ _ hb hr:=by
    have k:=hp_fresh_ok (sg:=sg) (us:=us) LY hw z hc hs hb
    unfold FrPost at k
    rw [hr] at k
    exact k
  grow w hw {_ _ _ _ _ _ _ _ _ _ _ _} z hr:=hp_grow hw z hr
  free w hw {_ _ _ _ _ _ _ _ _ _ _ _ _} z ha hne:=hp_free LY hw z ha hne
  free_none w hw {_ _ _ _ _ _ _ _ _ _ _ _ _} z ha hf:=hp_free_none LY hw z ha hf
  gather_none w hw {_ _ _ _ _ _ _ _ _ _ _ _ _} z ha hf:=hp_gather_none hw z ha hf
  gather w hw {_ _ _ _ _ _ _ _ _ _ _ _ _ _ _ _} z ha hf hP hu hin hn:=hp_gather LY hw z ha hf hP hu hin hn
  adopt_nil w _ {h _ _ _ _ _ _ _ _ _ _ _} _:=hp_adopt_nil w h
  adopt_there w hw {_ _ _ _ _ _ _ _ _ _ _ _ _} z hb:=hp_adopt_there hw z hb
  adopt w hw {_ _ _ _ _ _ _ _ _ _ _ _ _ _} z:=hp_adopt LY hw z
  leave_none w hw {_ _ _ _ _ _ _ _ _ _ _ _ _} z _ hne:=hp_leave_none hw z hne
  leave w hw {_ _ _ _ _ _ _ _ _ _ _ _ _ _} z:=hp_leave LY hw z
  segs w hw {_ _ _ _ _ _ _ _ _ _ _ _} z:=hp_segs hw z
  pages w hw {_ _ _ _ _ _ _ _ _ _ _ _ _ _} z hv hl:=hp_pages LY hw z hv hl
end Go.Proofs.YtippfeplogkaiaaGreatDoor
