/- The law CallRefuses, walked. -/
import Derived.Test.YtippfeplogkaiaaGreatDoorCallsG
namespace Go.Proofs.YtippfeplogkaiaaGreatDoor
open Go.RowKit ListMath PageMath GeoMath SegMath ClassMath HeapMath QueueMath ArenaMath CallMath
set_option linter.unusedVariables false
set_option maxRecDepth 100000
theorem tot8:ArenaMath.total (ar0 8 8).l=1:=by kernel_rfl
set_option maxHeartbeats 8000000 in
theorem refuses_bad (w:World) (LY:Lay w) {t kd:Int} {ad n al:Nat} {zz fo:Bool} (hbad:t<0∨8≤t∨kd<1∨5<kd):
    Calls Tryz.prog 9 #[.int .i64 t,callV kd ad n al zz fo] w fun e w'=>e= .returned (.bool true)∧Below w.heap.size w w':=by
  have hB0:Below w.heap.size w (w.alloc (.cells #[.int .i64 kd, .int .u64 (ad:Int), .int .u64 (n:Int), .int .u64 (al:Int), .bool zz, .bool fo] 38)):=(Below.refl _ w).alloc (Nat.le_refl _) _
  have nb0:=Blk.new w 38 #[.int .i64 kd, .int .u64 (ad:Int), .int .u64 (n:Int), .int .u64 (al:Int), .bool zz, .bool fo]
  obtain ⟨W,hW⟩: ∃W,w.alloc (.cells #[.int .i64 kd, .int .u64 (ad:Int), .int .u64 (n:Int), .int .u64 (al:Int), .bool zz, .bool fo] 38)=W:=⟨_,rfl⟩
  rw [hW] at hB0 nb0
  have AL:=Lib.hid (alive_any W (LY.below hB0))
  have NW:=Lib.hid (fun w1 (h:Below w.heap.size w w1)=>sysNew (C:=sgc w LY) (K:=hpc w LY (sgc w LY)) h (n:=8) (l:=8) (by omega) (by omega) (by omega) (by omega) (S:=fun _=>False) (fun k h=>h.elim) (fun k h=>h.elim))
  have B0:=Lib.hid hB0
  have D:=Lib.hid (fun w1 (h:Below W.heap.size W w1)=>(And.intro ((nb0.grew h).cell 0) (And.intro ((nb0.grew h).cell 1) (And.intro ((nb0.grew h).cell 2) (And.intro ((nb0.grew h).cell 3) (And.intro ((nb0.grew h).cell 4) ((nb0.grew h).cell 5)))))))
  have BG:Hid (∀w1 s p q hb L,OS (sgc w LY) (hpc w LY (sgc w LY)) s p q hb (sy0 (ar0 8 8)) L (fun _=>False) w1→Calls Tryz.prog 35 #[.pointer (some ⟨s,0,none⟩), .int .i64 t, .agg #[.int .i64 kd, .int .u64 (ad:Int), .int .u64 (n:Int), .int .u64 (al:Int), .bool zz, .bool fo]] w1 fun e w'=>e= .returned (.tuple #[.pointer none, .int .i64 2])∧Below w1.heap.size w1 w'):=Lib.hid fun w1 s p q hb L z=>by
    by_cases ht:t<0∨8≤t
    · exact begin_thread w1 ht
    · obtain ⟨t',rfl⟩: ∃t':Nat,t=(t':Int):=⟨t.toNat,by omega⟩
      exact begin_kind z (by omega) (by omega)
  unfold callV
  have tt:decide (t<0)=true∨(decide (t<0)=false∧decide (8≤t)=true)∨(decide (t<0)=false∧decide (8≤t)=false∧decide (kd<1)=true)∨(decide (t<0)=false∧decide (8≤t)=false∧decide (kd<1)=false∧decide (5<kd)=true):=by
    simp only [decide_eq_true_eq,decide_eq_false_iff_not]
    omega
  rcases tt with t1|⟨t1,t2⟩|⟨t1,t2,t3⟩|⟨t1,t2,t3,t4⟩
  all_goals
    clear nb0 hB0 hbad
    go_enter Tryz.func9,Tryz.ntmps9
    go_wp2_with fail
    refine AL.out.mono ?_;rintro e w1 ⟨rfl,hb1⟩
    have B1:=Lib.hid hb1
    clear hb1 hW
    go_wp2_with fail
    refine (NW.out _ (below_then B0.out B0.out.size B1.out)).mono ?_;rintro e w2 ⟨s,p,q,hb,L,rfl,z,hl,hb2⟩
    have Z:=Lib.hid z
    have B2:=Lib.hid (below_then B1.out B1.out.size hb2)
    obtain ⟨d0,d1,d2,d3,d4,d5⟩:=D.out _ B2.out
    clear z hl hb2
    go_wp2_with fail
    refine (BG.out _ _ _ _ _ _ Z.out).mono ?_;rintro e w3 ⟨rfl,hb3⟩
    have B3:=Lib.hid (below_then B2.out B2.out.size hb3)
    obtain ⟨d0,d1,d2,d3,d4,d5⟩:=D.out _ B3.out
    clear hb3
    go_wp2
    go_ret
    exact ⟨rfl,below_then B0.out B0.out.size B3.out⟩
theorem want_2:wantE 2=5:=rfl
theorem want_3:wantE 3=5:=rfl
theorem want_4:wantE 4=0:=rfl
theorem want_5:wantE 5=0:=rfl
set_option maxHeartbeats 8000000 in
theorem refuses_mall (w:World) (LY:Lay w) {t:Nat} {ad n al:Nat} {zz fo:Bool} (ht:t<8) (ha:U64B ad) (hn:U64B n) (hal:U64B al):
    Calls Tryz.prog 9 #[.int .i64 (t:Int),callV 1 ad n al zz fo] w fun e w'=>e= .returned (.bool true)∧Below w.heap.size w w':=by
  have hB0:Below w.heap.size w (w.alloc (.cells #[.int .i64 1, .int .u64 (ad:Int), .int .u64 (n:Int), .int .u64 (al:Int), .bool zz, .bool fo] 38)):=(Below.refl _ w).alloc (Nat.le_refl _) _
  have hsz:(w.alloc (.cells #[.int .i64 1, .int .u64 (ad:Int), .int .u64 (n:Int), .int .u64 (al:Int), .bool zz, .bool fo] 38)).heap.size=w.heap.size+1:=by show (w.heap.push _).size=_;exact Array.size_push _
  have nb0:=Blk.new w 38 #[.int .i64 1, .int .u64 (ad:Int), .int .u64 (n:Int), .int .u64 (al:Int), .bool zz, .bool fo]
  obtain ⟨W,hW⟩: ∃W,w.alloc (.cells #[.int .i64 1, .int .u64 (ad:Int), .int .u64 (n:Int), .int .u64 (al:Int), .bool zz, .bool fo] 38)=W:=⟨_,rfl⟩
  rw [hW] at hB0 nb0 hsz
  have AL:=Lib.hid (alive_any W (LY.below hB0))
  have NW:=Lib.hid (fun w1 (h:Below W.heap.size W w1)=>sysNew (C:=sgc w LY) (K:=hpc w LY (sgc w LY)) (below_then hB0 hB0.size h) (n:=8) (l:=8) (by omega) (by omega) (by omega) (by omega) (S:=fun k=>k=w.heap.size) (fun k e=>by have:=h.size;omega) (fun k e=>by omega))
  have D:=Lib.hid (fun w1 (h:Upd (fun k=>k≠w.heap.size) W w1)=>(And.intro ((nb0.upd h fun x=>x rfl).cell 0) (And.intro ((nb0.upd h fun x=>x rfl).cell 1) (And.intro ((nb0.upd h fun x=>x rfl).cell 2) (And.intro ((nb0.upd h fun x=>x rfl).cell 3) (And.intro ((nb0.upd h fun x=>x rfl).cell 4) ((nb0.upd h fun x=>x rfl).cell 5)))))))
  have BG:=Lib.hid (fun w1 s p q hb L (z:OS (sgc w LY) (hpc w LY (sgc w LY)) s p q hb (sy0 (ar0 8 8)) L (fun k=>k=w.heap.size) w1)=>begin_new LY z ht (kd:=1) (by decide) (by decide) ha hn hal (zz:=zz) (fo:=fo))
  obtain ⟨ti,hti⟩: ∃ti:Int,(t:Int)=ti:=⟨_,rfl⟩
  rw [hti] at BG⊢
  have t1:decide (ti<0)=false:=decide_eq_false (by omega)
  have t2:decide (8≤ti)=false:=decide_eq_false (by omega)
  have SZ:=Lib.hid hsz
  unfold callV at BG⊢
  clear nb0 hB0 hti hsz
  go_enter Tryz.func9,Tryz.ntmps9
  go_wp2_with fail
  refine AL.out.mono ?_;rintro e w1 ⟨rfl,hb1⟩
  have B1:=Lib.hid hb1
  clear hb1 hW
  go_wp2_with fail
  refine (NW.out _ B1.out).mono ?_;rintro e w2 ⟨s,p,q,hb,L,rfl,z,hl,hb2⟩
  have Z:=Lib.hid z
  have B2:=Lib.hid (below_then B1.out B1.out.size hb2)
  have U2:Hid (Upd (fun k=>k≠w.heap.size) W w2):=Lib.hid ((updFalse_of B2.out).mono fun _ x=>x.elim)
  obtain ⟨d0,d1,d2,d3,d4,d5⟩:=D.out _ U2.out
  clear z hl hb2
  go_wp2_with fail
  refine (BG.out _ _ _ _ _ _ Z.out).mono ?_;rintro e w3 ⟨f,m,st,F,S',a,k,cap,rfl,hf,n3,hst,M,O⟩
  have uu: ∀{S4:Nat→Prop} {w4:World},StillF S4 f w2 w4→(∀b,b=w.heap.size→S4 b)→Upd (fun k=>k≠w.heap.size) W w4:=fun u hs=>U2.out.trans (u.mono fun k hk=>hk.elim (fun e e2=>by have:=B2.out.size;have:=hf.1;have:=SZ.out;omega) fun hk e2=>hk (hs _ e2))
  have UU:Hid (∀{S4:Nat→Prop} {w4:World},StillF S4 f w2 w4→(∀b,b=w.heap.size→S4 b)→Upd (fun k=>k≠w.heap.size) W w4):=Lib.hid uu
  obtain ⟨d0,d1,d2,d3,d4,d5⟩:=D.out _ (UU.out n3.un hf.2)
  have N3:=Lib.hid n3
  have DN:=Lib.hid (done_fr n3.fr hst)
  have RN:=Lib.hid (result_not n3.fr hst)
  have FN:Hid (∀w4,Below w3.heap.size w3 w4→ ∃Z:SY→List Nat→FR→Prop,Calls Tryz.prog 36 #[.pointer (some ⟨f,0,none⟩), .int .i64 (100:Nat)] w4 fun e w'=>e= .returned (.bool true)∧Over (sgc w LY) (hpc w LY (sgc w LY)) s p q hb (fun k=>k=w.heap.size) f m w2 L.length Z w'):=Lib.hid fun w4 h=>by
    obtain ⟨j,hj,Z,e2⟩:=M (by simp) _ (N3.out.grew h)
    exact ⟨Z,finish_any (mo:=100) e2 (by omega) (by omega)⟩
  have HF:=Lib.hid hf.2
  clear n3 hst M O uu hf
  go_wp2_with fail
  refine DN.out.mono ?_;rintro e w4 ⟨rfl,rfl⟩
  go_wp2_with fail
  refine RN.out.mono ?_;rintro e w5 ⟨rfl,hb5⟩
  have B5:=Lib.hid hb5
  obtain ⟨d0,d1,d2,d3,d4,d5⟩:=D.out _ (UU.out (N3.out.grew B5.out).un HF.out)
  clear hb5
  unfold resV
  go_wp2_with fail
  obtain ⟨Z,FN⟩:=FN.out _ B5.out
  have FN:=Lib.hid FN
  refine FN.out.mono ?_;rintro e w6 ⟨rfl,P,L6,F6,hl6,hz,S6,a6,k6,cap6,n6,i6,j6⟩
  have B6:=Lib.hid n6.os.below
  clear n6 hz i6 j6 hl6
  go_wp2
  go_ret
  exact ⟨rfl,B6.out⟩
set_option maxHeartbeats 8000000 in
theorem refuses_one (w:World) (LY:Lay w) {t:Nat} {kd:Int} (hk:kd=2∨kd=3∨kd=4∨kd=5) {ad n al:Nat} {zz fo:Bool} (ht:t<8) (ha:U64B ad) (hn:U64B n) (hal:U64B al):
    Calls Tryz.prog 9 #[.int .i64 (t:Int),callV kd ad n al zz fo] w fun e w'=>e= .returned (.bool true)∧Below w.heap.size w w':=by
  have hB0:Below w.heap.size w (w.alloc (.cells #[.int .i64 kd, .int .u64 (ad:Int), .int .u64 (n:Int), .int .u64 (al:Int), .bool zz, .bool fo] 38)):=(Below.refl _ w).alloc (Nat.le_refl _) _
  have hsz:(w.alloc (.cells #[.int .i64 kd, .int .u64 (ad:Int), .int .u64 (n:Int), .int .u64 (al:Int), .bool zz, .bool fo] 38)).heap.size=w.heap.size+1:=by show (w.heap.push _).size=_;exact Array.size_push _
  have nb0:=Blk.new w 38 #[.int .i64 kd, .int .u64 (ad:Int), .int .u64 (n:Int), .int .u64 (al:Int), .bool zz, .bool fo]
  obtain ⟨W,hW⟩: ∃W,w.alloc (.cells #[.int .i64 kd, .int .u64 (ad:Int), .int .u64 (n:Int), .int .u64 (al:Int), .bool zz, .bool fo] 38)=W:=⟨_,rfl⟩
  rw [hW] at hB0 nb0 hsz
  have AL:=Lib.hid (alive_any W (LY.below hB0))
  have NW:=Lib.hid (fun w1 (h:Below W.heap.size W w1)=>sysNew (C:=sgc w LY) (K:=hpc w LY (sgc w LY)) (below_then hB0 hB0.size h) (n:=8) (l:=8) (by omega) (by omega) (by omega) (by omega) (S:=fun k=>k=w.heap.size) (fun k e=>by have:=h.size;omega) (fun k e=>by omega))
  have D:=Lib.hid (fun w1 (h:Upd (fun k=>k≠w.heap.size) W w1)=>(And.intro ((nb0.upd h fun x=>x rfl).cell 0) (And.intro ((nb0.upd h fun x=>x rfl).cell 1) (And.intro ((nb0.upd h fun x=>x rfl).cell 2) (And.intro ((nb0.upd h fun x=>x rfl).cell 3) (And.intro ((nb0.upd h fun x=>x rfl).cell 4) ((nb0.upd h fun x=>x rfl).cell 5)))))))
  have BG:=Lib.hid (fun w1 s p q hb L (z:OS (sgc w LY) (hpc w LY (sgc w LY)) s p q hb (sy0 (ar0 8 8)) L (fun k=>k=w.heap.size) w1)=>begin_new LY z ht (kd:=kd) (by omega) (by omega) ha hn hal (zz:=zz) (fo:=fo))
  obtain ⟨ti,hti⟩: ∃ti:Int,(t:Int)=ti:=⟨_,rfl⟩
  rw [hti] at BG⊢
  have t1:decide (ti<0)=false:=decide_eq_false (by omega)
  have t2:decide (8≤ti)=false:=decide_eq_false (by omega)
  have SZ:=Lib.hid hsz
  unfold callV at BG⊢
  clear nb0 hB0 hti hsz
  rcases hk with rfl|rfl|rfl|rfl
  all_goals
    go_enter Tryz.func9,Tryz.ntmps9
    go_wp2_with fail
    refine AL.out.mono ?_;rintro e w1 ⟨rfl,hb1⟩
    have B1:=Lib.hid hb1
    clear hb1 hW
    go_wp2_with fail
    refine (NW.out _ B1.out).mono ?_;rintro e w2 ⟨s,p,q,hb,L,rfl,z,hl,hb2⟩
    have Z:=Lib.hid z
    have B2:=Lib.hid (below_then B1.out B1.out.size hb2)
    have U2:Hid (Upd (fun k=>k≠w.heap.size) W w2):=Lib.hid ((updFalse_of B2.out).mono fun _ x=>x.elim)
    obtain ⟨d0,d1,d2,d3,d4,d5⟩:=D.out _ U2.out
    clear z hl hb2
    go_wp2_with fail
    refine (BG.out _ _ _ _ _ _ Z.out).mono ?_;rintro e w3 ⟨f,m,st,F,S',a,k,cap,rfl,hf,n3,hst,M,O⟩
    have uu: ∀{S4:Nat→Prop} {w4:World},StillF S4 f w2 w4→(∀b,b=w.heap.size→S4 b)→Upd (fun k=>k≠w.heap.size) W w4:=fun u hs=>U2.out.trans (u.mono fun k hk=>hk.elim (fun e e2=>by have:=B2.out.size;have:=hf.1;have:=SZ.out;omega) fun hk e2=>hk (hs _ e2))
    have UU:Hid (∀{S4:Nat→Prop} {w4:World},StillF S4 f w2 w4→(∀b,b=w.heap.size→S4 b)→Upd (fun k=>k≠w.heap.size) W w4):=Lib.hid uu
    obtain ⟨d0,d1,d2,d3,d4,d5⟩:=D.out _ (UU.out n3.un hf.2)
    have N3:=Lib.hid n3
    have DN:=Lib.hid (done_fr n3.fr hst)
    have RN:=Lib.hid (result_not n3.fr hst)
    have FN:=Lib.hid (fun w4 (h:Below w3.heap.size w3 w4)=>finish_any (mo:=3) (O (by simp) _ (N3.out.grew h)) (by omega) (by omega))
    have HF:=Lib.hid hf.2
    clear n3 hst M O uu hf
    go_wp2_with fail
    refine DN.out.mono ?_;rintro e w4 ⟨rfl,rfl⟩
    go_wp2_with fail
    refine RN.out.mono ?_;rintro e w5 ⟨rfl,hb5⟩
    have B5:=Lib.hid hb5
    obtain ⟨d0,d1,d2,d3,d4,d5⟩:=D.out _ (UU.out (N3.out.grew B5.out).un HF.out)
    clear hb5
    unfold resV
    go_wp2_with fail
    refine (FN.out _ B5.out).mono ?_;rintro e w6 ⟨rfl,P,L6,F6,hl6,⟨z1,z2,z3,z4⟩,S6,a6,k6,cap6,n6,i6,j6⟩
    have N6:=Lib.hid n6
    obtain ⟨d0,d1,d2,d3,d4,d5⟩:=D.out _ (UU.out n6.un i6)
    have D6:=Lib.hid (fun w7 (h:Below w6.heap.size w6 w7)=>D.out _ (UU.out (n6.grew h).un i6))
    have AR:=Lib.hid (arena_sys n6.os)
    have GV:=fun w7 (h:Below w6.heap.size w6 w7)=>sy_given (n6.grew h).os
    rw [z1,tot8] at GV
    have GV:=Lib.hid GV
    have RS:=fun w7 (h:Below w6.heap.size w6 w7)=>result_done (n6.grew h).fr
    rw [z2,z3,z4] at RS
    simp only [want_2,want_3,want_4,want_5] at RS
    have RS:=Lib.hid RS
    have ST:=Lib.hid (fun w7 (h:Below w6.heap.size w6 w7)=>step_over (n6.grew h).fr)
    have SA:=Lib.hid (fun w7 (h:Below w6.heap.size w6 w7)=>state_any (n6.grew h).fr)
    have B6:=Lib.hid n6.os.below
    clear n6 z1 z2 z3 z4 i6 j6 hl6
    go_wp2_with fail
    refine AR.out.mono ?_;rintro e w7 ⟨rfl,rfl⟩
    go_wp2_with fail
    refine (GV.out _ (Below.refl _ _)).mono ?_;rintro e w8 ⟨rfl,hb8⟩
    have B8:=Lib.hid hb8
    obtain ⟨d0,d1,d2,d3,d4,d5⟩:=D6.out _ hb8
    clear hb8
    unfold resV at RS
    go_wp2_with (first
      |((refine (RS.out _ B8.out).mono ?_);rintro e w9 ⟨rfl,hb9⟩;have B9:=Lib.hid (below_then B8.out B8.out.size hb9);clear hb9)
      |((refine (RS.out _ B8.out.drew).mono ?_);rintro e w9 ⟨rfl,hb9⟩;have B9:=Lib.hid (below_then B8.out.drew B8.out.drew.size hb9);clear hb9)
      |((with_reducible refine (ST.out _ B9.out).mono ?_);rintro e w10 ⟨rfl,rfl⟩)
      |((with_reducible refine (SA.out _ B9.out).mono ?_);rintro e w11 ⟨rfl,rfl⟩))
    go_ret
    exact ⟨rfl,below_then B6.out B6.out.size B9.out⟩
end Go.Proofs.YtippfeplogkaiaaGreatDoor
