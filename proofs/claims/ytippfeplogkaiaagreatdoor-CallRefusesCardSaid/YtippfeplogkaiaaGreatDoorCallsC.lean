/- CallsC: texts of layers below, joined (CallE CallF CallG CallH). -/
import Derived.Test.YtippfeplogkaiaaGreatDoorCallsB
import Derived.Deep.RegionHeld3
namespace Go.Proofs.YtippfeplogkaiaaGreatDoor
open Go.RowKit ListMath PageMath GeoMath SegMath ClassMath HeapMath QueueMath ArenaMath CallMath
set_option linter.unusedVariables false
set_option maxRecDepth 100000
section
variable {w0 w w':World} {C:SgC w0} {K:HpC w0 C} {s p q f m k cap:Nat} {hb:Nat→Nat} {P P':SY} {L L':List Nat} {S S' T:Nat→Prop} {F F':FR} {st st':ByteArray} {a:Option Addr}
theorem Fr.c_s (h:Fr w S f s m hb F st a k cap):w.cell? ⟨f,0,none⟩=some (.pointer (some ⟨s,0,none⟩)):=h.c 0
theorem Fr.c_h (h:Fr w S f s m hb F st a k cap):w.cell? ⟨f,1,none⟩=some (.pointer (some ⟨hb F.t,0,none⟩)):=h.c 1
theorem Fr.c_kd (h:Fr w S f s m hb F st a k cap):w.cell? ⟨f,3,none⟩=some (.int .i64 F.kd):=h.c 3
theorem Fr.c_ad (h:Fr w S f s m hb F st a k cap):w.cell? ⟨f,4,none⟩=some (.int .u64 (F.ad:Int)):=h.c 4
theorem Fr.c_n (h:Fr w S f s m hb F st a k cap):w.cell? ⟨f,5,none⟩=some (.int .u64 (F.n:Int)):=h.c 5
theorem Fr.c_al (h:Fr w S f s m hb F st a k cap):w.cell? ⟨f,6,none⟩=some (.int .u64 (F.al:Int)):=h.c 6
theorem Fr.c_z (h:Fr w S f s m hb F st a k cap):w.cell? ⟨f,7,none⟩=some (.bool F.z):=h.c 7
theorem Fr.c_fo (h:Fr w S f s m hb F st a k cap):w.cell? ⟨f,8,none⟩=some (.bool F.fo):=h.c 8
theorem Fr.c_steps (h:Fr w S f s m hb F st a k cap):w.cell? ⟨f,9,none⟩=some (.map (some m)):=h.c 9
theorem Fr.c_st (h:Fr w S f s m hb F st a k cap):w.cell? ⟨f,10,none⟩=some (.string st):=h.c 10
theorem Fr.c_took (h:Fr w S f s m hb F st a k cap):w.cell? ⟨f,11,none⟩=some (.int .i64 (F.took:Int)):=h.c 11
theorem Fr.c_pc (h:Fr w S f s m hb F st a k cap):w.cell? ⟨f,12,none⟩=some (.int .i64 F.pc):=h.c 12
theorem Fr.c_ps (h:Fr w S f s m hb F st a k cap):w.cell? ⟨f,13,none⟩=some (.int .i64 F.ps):=h.c 13
theorem Fr.c_pg (h:Fr w S f s m hb F st a k cap):w.cell? ⟨f,14,none⟩=some (.int .i64 F.pg):=h.c 14
theorem Fr.c_pu (h:Fr w S f s m hb F st a k cap):w.cell? ⟨f,15,none⟩=some (.int .u64 (F.pu:Int)):=h.c 15
theorem Fr.c_pv (h:Fr w S f s m hb F st a k cap):w.cell? ⟨f,16,none⟩=some (.slice a k cap):=h.c 16
theorem Fr.c_seen (h:Fr w S f s m hb F st a k cap):w.cell? ⟨f,17,none⟩=some (.int .i64 F.seen):=h.c 17
theorem Fr.c_tag (h:Fr w S f s m hb F st a k cap):w.cell? ⟨f,19,none⟩=some (.int .u64 (F.tag:Int)):=h.c 19
theorem Fr.c_addr (h:Fr w S f s m hb F st a k cap):w.cell? ⟨f,23,none⟩=some (.int .u64 (F.addr:Int)):=h.c 23
theorem Fr.c_err (h:Fr w S f s m hb F st a k cap):w.cell? ⟨f,24,none⟩=some (.int .i64 F.err):=h.c 24
theorem Fr.fz (h:Fr w S f s m hb F st a k cap) (i:Nat):w.frozen? ⟨f,i,none⟩=false:=h.blk.frozen i
abbrev UpdF (f:Nat) (w w':World):Prop:=Upd (fun b=>b=f) w w'
theorem state_any (h:Fr w S f s m hb F st a k cap):Calls Tryz.prog 20 #[.pointer (some ⟨f,0,none⟩)] w fun e w'=>e= .returned (.string st)∧w'=w:=by
  have c10:=h.c_st
  clear h
  go_enter Tryz.func20,Tryz.ntmps20
  go_wp2
  go_ret
  exact ⟨rfl,rfl⟩
def isDone (st:ByteArray):Bool:=st.toList== [100,111,110,101]
theorem done_fr (h:Fr w S f s m hb F st a k cap) {d:Bool} (hd:(st.toList== [100,111,110,101])=d):Calls Tryz.prog 31 #[.pointer (some ⟨f,0,none⟩)] w fun e w'=>e= .returned (.bool d)∧w'=w:=by
  have c10:=h.c_st
  have c0:=h.c_s
  clear h
  go_enter Tryz.func31,Tryz.ntmps31
  go_wp2
  go_ret
  exact ⟨rfl,rfl⟩
theorem mallocs_any (h:Fr w S f s m hb F st a k cap):Calls Tryz.prog 177 #[.pointer (some ⟨f,0,none⟩)] w fun e w'=>e= .returned (.bool (decide (F.kd=1∨F.kd=3)))∧w'=w:=by
  have c3:=h.c_kd
  obtain ⟨kd,hk⟩: ∃kd,F.kd=kd:=⟨_,rfl⟩
  rw [hk] at c3⊢
  clear h hk
  by_cases h1:kd=1
  · subst h1
    go_enter Tryz.func177,Tryz.ntmps177
    go_wp2
    go_ret
    exact ⟨rfl,rfl⟩
  · have t1:(kd==1)=false:=by rw [beq_eq_false_iff_ne];exact h1
    by_cases h2:kd=3
    · subst h2
      clear t1 h1
      go_enter Tryz.func177,Tryz.ntmps177
      go_wp2
      go_ret
      exact ⟨rfl,rfl⟩
    · have t2:(kd==3)=false:=by rw [beq_eq_false_iff_ne];exact h2
      have e9:=Lib.hid (show decide (kd=1∨kd=3)=false from decide_eq_false fun h=>h.elim h1 h2)
      clear h1 h2
      go_enter Tryz.func177,Tryz.ntmps177
      go_wp2
      go_ret
      exact ⟨by rw [e9.out];rfl,rfl⟩
theorem fail_any (h:Fr w S f s m hb F st a k cap) (er:Int):Calls Tryz.prog 172 #[.pointer (some ⟨f,0,none⟩), .int .i64 er] w fun e w'=>e= .returned (.string b_done)∧Fr w' S f s m hb {F with err:=er} st a k cap∧UpdF f w w':=by
  have c24:=h.c_err
  have z24:=h.fz 24
  have H:=Lib.hid h
  clear h
  go_enter Tryz.func172,Tryz.ntmps172
  go_wp2
  go_ret
  exact ⟨rfl,H.out.put 24 _ {F with err:=er} st rfl rfl rfl,upd_at w f 24 _⟩
theorem refuse_fr (h:Fr w S f s m hb F st a k cap):Calls Tryz.prog 113 #[.pointer (some ⟨f,0,none⟩)] w fun e w'=>e= .returned (.string b_done)∧Fr w' S f s m hb {F with err:=2} st a k cap∧UpdF f w w':=by
  have FA:=Lib.hid (fail_any h 2)
  clear h
  go_enter Tryz.func113,Tryz.ntmps113
  go_wp2_with fail
  refine FA.out.mono ?_;rintro e w1 ⟨rfl,h1,u1⟩
  have H1:=Lib.hid (And.intro h1 u1)
  clear h1 u1
  go_wp2
  go_ret
  exact ⟨rfl,H1.out⟩
theorem rest_any (w:World):Calls Tryz.prog 128 #[.pointer (some ⟨f,0,none⟩)] w fun e w'=>e= .returned (.string b_done)∧w'=w:=by
  go_enter Tryz.func128,Tryz.ntmps128
  go_wp2
  go_ret
  exact ⟨rfl,rfl⟩
def freedF (F:FR) (er:Int):FR:=if F.kd=2 then {F with err:=er} else F
theorem freed_any (h:Fr w S f s m hb F st a k cap) (er:Int):Calls Tryz.prog 187 #[.pointer (some ⟨f,0,none⟩), .int .i64 er] w fun e w'=>e= .returned (.string b_done)∧Fr w' S f s m hb (freedF F er) st a k cap∧UpdF f w w':=by
  have c3:=h.c_kd
  have c24:=h.c_err
  have z24:=h.fz 24
  have H:=Lib.hid h
  obtain ⟨kd,hk⟩: ∃kd,F.kd=kd:=⟨_,rfl⟩
  rw [hk] at c3
  by_cases h1:kd=2
  · have e1:=Lib.hid (show freedF F er={F with err:=er} from if_pos (hk.trans h1))
    subst h1
    clear h hk
    go_enter Tryz.func187,Tryz.ntmps187
    go_wp2
    go_ret
    rw [e1.out]
    exact ⟨rfl,H.out.put 24 _ {F with err:=er} st rfl rfl rfl,upd_at w f 24 _⟩
  · have t1:(kd==2)=false:=by rw [beq_eq_false_iff_ne];exact h1
    have e1:=Lib.hid (show freedF F er=F from if_neg fun e=>h1 (hk.symm.trans e))
    clear h1 h hk
    go_enter Tryz.func187,Tryz.ntmps187
    go_wp2
    go_ret
    rw [e1.out]
    exact ⟨rfl,H.out,Upd.refl _ _⟩
def planF (F:FR) (pc ps pg:Int) (pu:Nat):FR:={F with pc:=pc,ps:=ps,pg:=pg,pu:=pu}
def askS (pc pg:Int):ByteArray:=if 0<pg then b_huge else if pc≠ -1 then b_local else b_fresh
theorem Fr.plan (h:Fr w S f s m hb F st a k cap) (pc ps pg:Int) (pu:Nat) (o:Obj):
    Fr (((((w.setCell ⟨f,12,none⟩ (.int .i64 pc)).setCell ⟨f,13,none⟩ (.int .i64 ps)).setCell ⟨f,14,none⟩ (.int .i64 pg)).setCell ⟨f,15,none⟩ (.int .u64 (pu:Int))).alloc o) S f s m hb (planF F pc ps pg pu) st a k cap∧
    UpdF f w (((((w.setCell ⟨f,12,none⟩ (.int .i64 pc)).setCell ⟨f,13,none⟩ (.int .i64 ps)).setCell ⟨f,14,none⟩ (.int .i64 pg)).setCell ⟨f,15,none⟩ (.int .u64 (pu:Int))).alloc o):=by
  have h1:=h.put 12 (.int .i64 pc) {F with pc:=pc} st rfl rfl rfl
  have h2:=h1.put 13 (.int .i64 ps) {F with pc:=pc,ps:=ps} st rfl rfl rfl
  have h3:=h2.put 14 (.int .i64 pg) {F with pc:=pc,ps:=ps,pg:=pg} st rfl rfl rfl
  have h4:=h3.put 15 (.int .u64 (pu:Int)) (planF F pc ps pg pu) st rfl rfl rfl
  exact ⟨h4.grew ((Below.refl _ _).alloc (Nat.le_refl _) o),((((upd_at w f 12 _).trans (upd_at _ f 13 _)).trans (upd_at _ f 14 _)).trans (upd_at _ f 15 _)).alloc o⟩
theorem ask_any (h:Fr w S f s m hb F st a k cap) (pc ps pg:Int) (pu:Nat):Calls Tryz.prog 132 #[.pointer (some ⟨f,0,none⟩), .agg #[.int .i64 pc, .int .i64 ps, .int .i64 pg, .int .u64 (pu:Int)]] w fun e w'=>e= .returned (.string (askS pc pg))∧Fr w' S f s m hb (planF F pc ps pg pu) st a k cap∧UpdF f w w':=by
  have c12:=h.c_pc;have c13:=h.c_ps;have c14:=h.c_pg;have c15:=h.c_pu
  have z12:=h.fz 12;have z13:=h.fz 13;have z14:=h.fz 14;have z15:=h.fz 15
  have hlt:=h.blk.lt
  have H:=Lib.hid (h.plan pc ps pg pu)
  clear h
  by_cases h1:0<pg
  · have t1:decide (0<pg)=true:=decide_eq_true h1
    have e1:=Lib.hid (show askS pc pg=b_huge from if_pos h1)
    clear h1
    go_enter Tryz.func132,Tryz.ntmps132
    go_wp2
    go_ret
    rw [e1.out]
    exact ⟨rfl,H.out _⟩
  · have t1:decide (0<pg)=false:=decide_eq_false h1
    by_cases h2:pc= -1
    · have e1:=Lib.hid (show askS pc pg=b_fresh by unfold askS;rw [if_neg h1,if_neg (fun h=>h h2)])
      subst h2
      clear h1
      go_enter Tryz.func132,Tryz.ntmps132
      go_wp2
      go_ret
      rw [e1.out]
      exact ⟨rfl,H.out _⟩
    · have e1:=Lib.hid (show askS pc pg=b_local by unfold askS;rw [if_neg h1,if_pos h2])
      have t2:(pc != -1)=true:=by rw [bne_iff_ne];exact h2
      clear h1 h2
      go_enter Tryz.func132,Tryz.ntmps132
      go_wp2
      go_ret
      rw [e1.out]
      exact ⟨rfl,H.out _⟩
end
end Go.Proofs.YtippfeplogkaiaaGreatDoor
namespace Go.Proofs.YtippfeplogkaiaaGreatDoor
open Go.RowKit ListMath PageMath GeoMath SegMath ClassMath HeapMath QueueMath ArenaMath CallMath
set_option linter.unusedVariables false
set_option maxRecDepth 100000
section
variable {w0 w w':World} {C:SgC w0} {sp p g:Nat} {I:Nat→Prop} {c:Addr} {L L':List Nat} {X:SG}
theorem Sg.writeM (h:Sg C.Int' w sp p g I c L X) (m:IsMem w' p g L') (u:Upd (fun k=>k=g) w w') (hl:L'.length=L.length) (hg: ∀o∈X.L,GoodP L' o.P):Sg C.Int' w' sp p g I c L' X where
  int:=C.upd h.int u fun b hb x=>h.sep.2.1 (hb▸x)
  mem:=m
  len:=by rw [hl];exact h.len
  pl:=h.pl
  good:=h.good
  own o ho:=(h.own o ho).upd u fun x=>(h.sep.2.2 o ho).2.2.2.1 x
  pg o ho:=⟨(h.pg o ho).1.beside m u (fun x=>(h.pg o ho).1.ng x),hg o ho,(h.pg o ho).2.2⟩
  ops:=h.ops
  pps:=h.pps
  sep:=h.sep
end
def findA (P:SY) (a:Nat):Option OwR:=P.all.findSome? fun X=>findO X a
def usE (P:SY) (a:Nat):Nat×Int:=match hugeE P.hu a with
  |some k=>(P.hu k*16384,0)
  | none=>match findA P a with
    |some o=>usO o a
    |none=>(0,5)
section
variable {w0 w w':World} {C:SgC w0} {K:HpC w0 C} {s p q g f m k cap:Nat} {hb:Nat→Nat} {own:Nat→Prop} {O:Nat→Nat→Prop} {B:Nat→List SB} {R:List SB} {P P':SY} {L L':List Nat} {S S' T:Nat→Prop} {F F':FR} {st st':ByteArray} {a:Option Addr}
theorem SyR.all (z:SyR C K s p q hb g own O B R P L w):P.all=(allB B R).map fun b=>b.X:=by
  unfold SY.all allB
  rw [List.map_append,List.map_flatMap,z.hR]
  rw [flat_congr (B:=fun t=>(P.H t).B) (B':=fun t=>(B t).map fun b=>b.X) fun u hu=>(z.hB u (List.mem_range.1 hu)).symm]
theorem SyR.found (z:SyR C K s p q hb g own O B R P L w) {x:Nat}:(∃b∈allB B R,∃o,findO b.X x=some o∧findA P x=some o)∨((∀b∈allB B R,findO b.X x=none)∧findA P x=none):=by
  unfold findA
  rw [z.all]
  cases h:((allB B R).map fun b=>b.X).findSome? fun X=>findO X x with
  | none=>
    refine .inr ⟨fun b hb1=> ?_,rfl⟩
    exact List.findSome?_eq_none_iff.1 h b.X (List.mem_map.2 ⟨b,hb1,rfl⟩)
  | some o=>
    obtain ⟨X,hX,e⟩:=List.exists_of_findSome?_eq_some h
    obtain ⟨b,hb1,rfl⟩:=List.mem_map.1 hX
    exact .inl ⟨b,hb1,o,e,rfl⟩
theorem sy_usable (z:OS C K s p q hb P L S w) {x:Nat} (hx:U64B x):Calls Tryz.prog 42 #[.pointer (some ⟨s,0,none⟩), .int .u64 (x:Int)] w fun e w'=>e= .returned (.tuple #[.int .u64 ((usE P x).1:Int), .int .i64 (usE P x).2])∧Below w.heap.size w w':=by
  obtain ⟨⟨g,own,O,B,R,z1,z2⟩,h5,h6,h7⟩:=z
  refine (usable_sys z1 h5 hx).mono fun e w' k=>⟨?_,k.2.2⟩
  unfold usE
  cases hh:hugeE P.hu x with
  |some j=>exact k.1 j hh
  | none=>
    rcases z1.found (x:=x) with ⟨b,hb1,o,e1,e2⟩|⟨e1,e2⟩
    · rw [e2];exact (k.2.1 hh).1 b hb1 o e1
    · rw [e2];exact (k.2.1 hh).2 e1
theorem SyR.write (z:SyR C K s p q hb g own O B R P L w) (m:IsMem w' p g L') (u:Upd (fun k=>k=g) w w') (hl:L'.length=L.length) (hg: ∀X∈P.all,∀o∈X.L,GoodP L' o.P):SyR C K s p q hb g own O B R P L' w':=by
  have hE: ∀k,k=g→EO p g own (allB B R) k:=fun k e=> .inr (.inl e)
  refine ⟨z.cs.upd u fun e=>z.so.1 (hE s e),⟨⟨m,fun b hb1=>(z.env.shop.sg b hb1).writeM m u hl fun o ho=>hg b.X (by rw [z.all];exact List.mem_map.2 ⟨b,hb1,rfl⟩) o ho,z.env.shop.ap,z.env.shop.nd⟩,z.env.ar.upd u fun k hk e=>(z.env.ao k hk).2.1 e,by rw [hl];exact z.env.size,z.env.pls,z.env.ao⟩,fun t ht=>K.upd (z.hp t ht) u fun k hk x=>z.ap t ht k x (hE k hk),z.hB,z.hR,z.good,z.ap,z.two,z.so,z.nbR,z.hul,z.nbB,z.lo⟩
theorem sy_fill (z:OS C K s p q hb P L S w) {x n:Nat} (hn:x+n≤L.length) (hg: ∀X∈P.all,∀o∈X.L,GoodP (splice L x (MemMath.fill n [])) o.P):
    Calls Tryz.prog 167 #[.pointer (some ⟨p,0,none⟩), .int .u64 (x:Int), .int .u64 (n:Int), .slice none 0 0] w fun e w'=>e= .returned (.int .i64 0)∧OS C K s p q hb P (splice L x (MemMath.fill n [])) S w'∧Still S w w':=by
  obtain ⟨⟨g,own,O,B,R,z1,z2⟩,h5,h6,h7⟩:=z
  refine (fill_none z1.env.shop.mem x n none 0 hn).mono ?_
  rintro e w' ⟨rfl,m,u⟩
  have hS: ∀k,k=g→ ¬S k:=fun k e=>z2 k (.inr (.inl (.inr (.inl e))))
  have hl:(splice L x (MemMath.fill n [])).length=L.length:=MemMath.length_splice' (by rw [MemMath.length_fill];exact hn)
  exact ⟨rfl,⟨⟨g,own,O,B,R,z1.write m u hl hg,z2⟩,h5.trans (u.below (fun k e=>z1.lo k (.inr (.inl (.inr (.inl e))))) h5.size),fun k hk=>Nat.lt_of_lt_of_le (h6 k hk) u.size,h7⟩,u.mono hS⟩
def dsnS (P:SY) (t:Nat):ByteArray:=if (P.H t).B= [] then b_done else b_disown
theorem disownOn_any (z:OS C K s p q hb P L S w) (h:Fr w S f s m hb F st a k cap):Calls Tryz.prog 197 #[.pointer (some ⟨f,0,none⟩)] w fun e w'=>e= .returned (.string (dsnS P F.t))∧Below w.heap.size w w':=by
  have c1:=h.c_h
  obtain ⟨⟨g,own,O,B,R,z1,z2⟩,h5,h6,h7⟩:=z
  have SG:=K.segs w h5 (z1.hz h.t8)
  have hB:=z1.hB _ h.t8
  obtain ⟨hp,hhp⟩: ∃hp,hb F.t=hp:=⟨_,rfl⟩
  rw [hhp] at c1 SG
  have SG:=Lib.hid SG
  by_cases hn:(P.H F.t).B= []
  · have e1:=Lib.hid (show dsnS P F.t=b_done from if_pos hn)
    have hl:(B F.t).length=0:=by
      have:((B F.t).map fun b=>b.X).length=0:=by rw [hB,hn];rfl
      simpa using this
    have HL:=Lib.hid hl
    clear z1 z2 h h5 h6 h7 hB hn hhp hl
    go_enter Tryz.func197,Tryz.ntmps197
    go_wp2_with fail
    refine SG.out.mono ?_;rintro e w1 ⟨a1,n,cp,rfl,hseq,hc1,hc2,hin,hb1⟩
    have hn0:n=0:=by rw [hseq.len,List.length_map];exact HL.out
    subst hn0
    have B1:=Lib.hid hb1
    clear hseq hc1 hc2 hin hb1 c1
    go_wp2
    go_ret
    rw [e1.out]
    exact ⟨rfl,B1.out⟩
  · have e1:=Lib.hid (show dsnS P F.t=b_disown from if_neg hn)
    have hl:0<(B F.t).length:=by
      have:((B F.t).map fun b=>b.X).length≠0:=by rw [hB];exact fun e=>hn (List.eq_nil_of_length_eq_zero e)
      rw [List.length_map] at this;omega
    have HL:=Lib.hid hl
    clear z1 z2 h h5 h6 h7 hB hn hhp hl
    go_enter Tryz.func197,Tryz.ntmps197
    go_wp2_with fail
    refine SG.out.mono ?_;rintro e w1 ⟨a1,n,cp,rfl,hseq,hc1,hc2,hin,hb1⟩
    have hn0:0<n:=by rw [hseq.len,List.length_map];exact HL.out
    have t1:decide ((0:Int)<(n:Int))=true:=decide_eq_true (by omega)
    have t1':decide (0<n)=true:=decide_eq_true hn0
    have B1:=Lib.hid hb1
    clear hseq hc1 hc2 hin hb1 c1 hn0
    go_wp2
    go_ret
    rw [e1.out]
    exact ⟨rfl,B1.out⟩
def gathS (P:SY) (F:FR):ByteArray:=if F.pages≠ [] then b_gather else if F.kd=1∨F.kd=3 then b_fresh else if F.kd=5 then dsnS P F.t else if F.fo=true then b_look else b_done
theorem gatherOn_any (z:OS C K s p q hb P L S w) (h:Fr w S f s m hb F st a k cap):Calls Tryz.prog 133 #[.pointer (some ⟨f,0,none⟩)] w fun e w'=>e= .returned (.string (gathS P F))∧Below w.heap.size w w':=by
  have c3:=h.c_kd;have c8:=h.c_fo;have c16:=h.c_pv
  have hkl:=h.pages.len
  by_cases h1:F.pages= []
  · have hk0:k=0:=by rw [hkl,h1];rfl
    have MA:=mallocs_any h
    by_cases h2:F.kd=1∨F.kd=3
    · have e1:=Lib.hid (show gathS P F=b_fresh by unfold gathS;rw [if_neg (fun e=>e h1),if_pos h2])
      rw [decide_eq_true h2] at MA
      have MA:=Lib.hid MA
      subst hk0
      clear z h hkl h1 h2
      go_enter Tryz.func133,Tryz.ntmps133
      go_wp2_with fail
      refine MA.out.mono ?_;rintro e w1 ⟨rfl,rfl⟩
      go_wp2
      go_ret
      rw [e1.out]
      exact ⟨rfl,Below.refl _ _⟩
    · rw [decide_eq_false h2] at MA
      have MA:=Lib.hid MA
      by_cases h3:F.kd=5
      · have e1:=Lib.hid (show gathS P F=dsnS P F.t by unfold gathS;rw [if_neg (fun e=>e h1),if_neg h2,if_pos h3])
        have DO:=Lib.hid (disownOn_any z h)
        obtain ⟨ds,hds⟩: ∃ds,dsnS P F.t=ds:=⟨_,rfl⟩
        rw [hds] at DO e1
        rw [h3] at c3
        subst hk0
        clear z h hkl h1 h2 h3 hds
        go_enter Tryz.func133,Tryz.ntmps133
        go_wp2_with fail
        refine MA.out.mono ?_;rintro e w1 ⟨rfl,rfl⟩
        go_wp2_with fail
        refine DO.out.mono ?_;rintro e w2 ⟨rfl,hb2⟩
        have B2:=Lib.hid hb2
        clear hb2
        go_wp2
        go_ret
        rw [e1.out]
        exact ⟨rfl,B2.out⟩
      · have t3:(F.kd==5)=false:=by rw [beq_eq_false_iff_ne];exact h3
        by_cases h4:F.fo=true
        · have e1:=Lib.hid (show gathS P F=b_look by unfold gathS;rw [if_neg (fun e=>e h1),if_neg h2,if_neg h3,if_pos h4])
          rw [h4] at c8
          obtain ⟨kd,hkd⟩: ∃kd,F.kd=kd:=⟨_,rfl⟩
          rw [hkd] at c3 t3
          subst hk0
          clear z h hkl h1 h2 h3 h4 hkd
          go_enter Tryz.func133,Tryz.ntmps133
          go_wp2_with fail
          refine MA.out.mono ?_;rintro e w1 ⟨rfl,rfl⟩
          go_wp2
          go_ret
          rw [e1.out]
          exact ⟨rfl,Below.refl _ _⟩
        · have e1:=Lib.hid (show gathS P F=b_done by unfold gathS;rw [if_neg (fun e=>e h1),if_neg h2,if_neg h3,if_neg h4])
          have h4':F.fo=false:=by cases hf:F.fo with|true=>exact absurd hf h4|false=>rfl
          rw [h4'] at c8
          obtain ⟨kd,hkd⟩: ∃kd,F.kd=kd:=⟨_,rfl⟩
          rw [hkd] at c3 t3
          subst hk0
          clear z h hkl h1 h2 h3 h4 h4' hkd
          go_enter Tryz.func133,Tryz.ntmps133
          go_wp2_with fail
          refine MA.out.mono ?_;rintro e w1 ⟨rfl,rfl⟩
          go_wp2
          go_ret
          rw [e1.out]
          exact ⟨rfl,Below.refl _ _⟩
  · have hk0:0<k:=by rw [hkl];cases hp:F.pages with|nil=>exact absurd hp h1|cons x l=>exact Nat.succ_pos _
    have e1:=Lib.hid (show gathS P F=b_gather from if_pos h1)
    have t1:decide ((0:Int)<(k:Int))=true:=decide_eq_true (by omega)
    have t1':decide (0<k)=true:=decide_eq_true hk0
    clear z h hkl h1 hk0
    go_enter Tryz.func133,Tryz.ntmps133
    go_wp2
    go_ret
    rw [e1.out]
    exact ⟨rfl,Below.refl _ _⟩
end
end Go.Proofs.YtippfeplogkaiaaGreatDoor
namespace Go.Proofs.YtippfeplogkaiaaGreatDoor
open Go.RowKit ListMath PageMath GeoMath SegMath ClassMath HeapMath QueueMath ArenaMath CallMath
set_option linter.unusedVariables false
set_option maxRecDepth 100000
structure NowF {w0:World} (C:SgC w0) (K:HpC w0 C) (s p q:Nat) (hb:Nat→Nat) (S:Nat→Prop) (f m:Nat) (a:Option Addr) (k cap:Nat) (w:World) (P:SY) (L:List Nat) (F:FR) (st:ByteArray) (w':World):Prop where
  os:OS C K s p q hb P L S w'
  fr:Fr w' S f s m hb F st a k cap
  un:StillF S f w w'
section
variable {w0 w w' w1:World} {C:SgC w0} {K:HpC w0 C} {s p q g f m k cap:Nat} {hb:Nat→Nat} {own own':Nat→Prop} {O:Nat→Nat→Prop} {B:Nat→List SB} {R:List SB} {P P':SY} {L L':List Nat} {S S' T:Nat→Prop} {F F':FR} {st st':ByteArray} {a:Option Addr}
theorem NowF.start (z:OS C K s p q hb P L S w) (h:Fr w S f s m hb F st a k cap):NowF C K s p q hb S f m a k cap w P L F st w:=⟨z,h,Upd.refl _ _⟩
theorem NowF.grew (z:NowF C K s p q hb S f m a k cap w P L F st w') (h:Below w'.heap.size w' w1):NowF C K s p q hb S f m a k cap w P L F st w1:=
  ⟨z.os.grew h,z.fr.grew h,z.un.step (updFalse_of h) fun _ x=>x.elim⟩
theorem NowF.drew (z:NowF C K s p q hb S f m a k cap w P L F st w'):NowF C K s p q hb S f m a k cap w P L F st w'.drew:=z.grew (Below.refl _ _).drew
theorem NowF.drewN (z:NowF C K s p q hb S f m a k cap w P L F st w') (n:Nat):NowF C K s p q hb S f m a k cap w P L F st (w'.drewN n):=z.grew (below_drewN (Below.refl _ _) n)
theorem NowF.alloc (z:NowF C K s p q hb S f m a k cap w P L F st w') (o:Obj):NowF C K s p q hb S f m a k cap w P L F st (w'.alloc o):=z.grew ((Below.refl _ _).alloc (Nat.le_refl _) o)
theorem NowF.turn (z:NowF C K s p q hb S f m a k cap w P L F st w') (z':OS C K s p q hb P' L' S w1) (u:Still S w' w1):NowF C K s p q hb S f m a k cap w P' L' F st w1:=
  ⟨z',z.fr.upd u fun b hb hs=>hb hs,z.un.trans (StillF.of u)⟩
theorem NowF.fput (z:NowF C K s p q hb S f m a k cap w P L F st w') (h:Fr w1 S f s m hb F' st' a k cap) (u:UpdF f w' w1):NowF C K s p q hb S f m a k cap w P L F' st' w1:=
  ⟨z.os.upd u fun b e=>e▸z.fr.sf,h,z.un.trans (u.mono fun b e=> .inl e)⟩
theorem NowF.put (z:NowF C K s p q hb S f m a k cap w P L F st w') (i:Nat) (v:Value) (F':FR) (st':ByteArray) (e:(frC s hb F st m (.slice a k cap)).setIfInBounds i v=frC s hb F' st' m (.slice a k cap)) (hp:F'.pages=F.pages) (ht:F'.t=F.t):NowF C K s p q hb S f m a k cap w P L F' st' (w'.setCell ⟨f,i,none⟩ v):=
  z.fput (z.fr.put i v F' st' e hp ht) (upd_at w' f i v)
theorem SyR.arena (z:SyR C K s p q hb g own O B R P L w) {A':St} (ia:IsArena w' q own' A') (hown: ∀k,own' k→own k∨w.heap.size≤k) (u:Upd own w w') (hS:A'.S=P.A.S) (hp: ∀b∈allB B R,(b.X.pl,1)∈A'.l):SyR C K s p q hb g own' O B R {P with A:=A'} L w':=by
  have hoE: ∀k,own k→EO p g own (allB B R) k:=fun k hk=> .inr (.inr (.inl hk))
  have hE: ∀k,EO p g own' (allB B R) k→EO p g own (allB B R) k∨w.heap.size≤k:=fun k hk=>by
    rcases hk with x|x|x|x
    · exact .inl (.inl x)
    · exact .inl (.inr (.inl x))
    · exact (hown k x).imp (hoE k) id
    · exact .inl (.inr (.inr (.inr x)))
  refine ⟨z.cs.upd u fun x=>z.so.1 (hoE s x),⟨z.env.shop.upd u fun k hk=>z.env.ao k hk,ia,by rw [hS];exact z.env.size,hp,fun k hk=> ?_⟩,fun t ht=>K.upd (z.hp t ht) u fun k hk x=>z.ap t ht k x (hoE k hk),z.hB,z.hR,z.good,fun t ht k hk x=> ?_,z.two,⟨fun x=> ?_,z.so.2⟩,z.nbR,z.hul,z.nbB,fun k hk=> ?_⟩
  · rcases hown k hk with x|x
    · exact z.env.ao k x
    · refine ⟨fun e=> ?_,fun e=> ?_,fun b hb1 e=> ?_⟩
      · have:=z.env.shop.mem.head.lt;omega
      · have:=z.env.shop.mem.row.lt;omega
      · have:=z.env.shop.lt hb1 e;omega
  · rcases hE k x with y|y
    · exact z.ap t ht k hk y
    · have:=(K.num (z.hp t ht)).2.1 k hk;omega
  · rcases hE s x with y|y
    · exact z.so.1 y
    · have:=z.cs.lt;omega
  · rcases hk with hk|hk|hk
    · exact z.lo k (.inl hk)
    · rcases hE k hk with y|y
      · exact z.lo k (.inr (.inl y))
      · have h1:=z.lo s (.inl rfl);have h2:=z.cs.lt;omega
    · exact z.lo k (.inr (.inr hk))
theorem OS.arena (z:OS C K s p q hb P L S w) {A':St} (hS:A'.S=P.A.S) (hp: ∀X∈P.all,(X.pl,1)∈A'.l) (k: ∀own,IsArena w q own P.A→ ∃own',IsArena w' q own' A'∧(∀k,own' k→own k∨w.heap.size≤k)∧Upd own w w'):OS C K s p q hb {P with A:=A'} L S w'∧Still S w w':=by
  obtain ⟨⟨g,own,O,B,R,z1,z2⟩,h5,h6,h7⟩:=z
  obtain ⟨own',ia,hown,u⟩:=k own z1.env.ar
  have hoE: ∀k,own k→SyO s p g own O (allB B R) k:=fun k hk=> .inr (.inl (.inr (.inr (.inl hk))))
  refine ⟨⟨⟨g,own',O,B,R,z1.arena ia hown u hS fun b hb1=>hp b.X (by rw [z1.all];exact List.mem_map.2 ⟨b,hb1,rfl⟩),fun k hk e=> ?_⟩,h5.trans (u.below (fun k hk=>z1.lo k (hoE k hk)) h5.size),fun k hk=>Nat.lt_of_lt_of_le (h6 k hk) u.size,h7⟩,u.mono fun k hk=>z2 k (hoE k hk)⟩
  rcases hk with x|(x|x|x|x)|x
  · exact z2 k (.inl x) e
  · exact z2 k (.inr (.inl (.inl x))) e
  · exact z2 k (.inr (.inl (.inr (.inl x)))) e
  · rcases hown k x with y|y
    · exact z2 k (hoE k y) e
    · have:=h6 k e;omega
  · exact z2 k (.inr (.inl (.inr (.inr (.inr x))))) e
  · exact z2 k (.inr (.inr x)) e
theorem OS.putHuge (z:OS C K s p q hb P L S w) {j:Nat} (hj:j<64) {v:Nat} (hv:v≤64) {V:Int} (hV:V=(v:Int)):OS C K s p q hb {P with hu:=fun i=>if i=j then v else P.hu i} L S (w.setCell ⟨s,77+j,none⟩ (.int .i64 V))∧Still S w (w.setCell ⟨s,77+j,none⟩ (.int .i64 V)):=by
  obtain ⟨⟨g,own,O,B,R,z1,z2⟩,h5,h6,h7⟩:=z
  have u:=upd_at w s (77+j) (.int .i64 V)
  refine ⟨⟨⟨g,own,O,B,R,⟨z1.cs.putHuge hj hV,z1.env.upd u fun k e x=>z1.so.1 (e▸x),fun t ht=>K.upd (z1.hp t ht) u fun k e x=>z1.so.2 t ht (e▸x),z1.hB,z1.hR,z1.good,z1.ap,z1.two,z1.so,z1.nbR,fun i hi=> ?_,z1.nbB,z1.lo⟩,z2⟩,h5.trans (u.below (fun k e=>z1.lo k (.inl e)) h5.size),fun k hk=>Nat.lt_of_lt_of_le (h6 k hk) u.size,h7⟩,u.mono fun k e=>z2 k (.inl e)⟩
  show (if i=j then v else P.hu i)≤64
  split
  · exact hv
  · exact z1.hul i hi
end
end Go.Proofs.YtippfeplogkaiaaGreatDoor
namespace Go.Proofs.YtippfeplogkaiaaGreatDoor
open Go.RowKit ListMath PageMath GeoMath SegMath ClassMath HeapMath QueueMath ArenaMath CallMath
set_option linter.unusedVariables false
set_option maxRecDepth 100000
def resE (P:SY) (n:Int):Nat×Int×SY:=
  if (reserve P.A n).2.1≠0 then (0,(reserve P.A n).2.1,{P with A:=(reserve P.A n).2.2})
  else ((reserve P.A n).1.toNat*16384,0,{P with A:=(reserve P.A n).2.2,hu:=fun i=>if i=(reserve P.A n).1.toNat then n.toNat else P.hu i})
theorem reserve_n (A:St) (hA:ArenaMath.Good A) (n:Int):(∃a k:Nat,n=(k:Int)∧1≤k∧reserve A n=((a:Int),0,A.give a k)∧a+k≤A.S∧(∀x,x∈(A.give a k).l↔x∈A.l∨x=(a,k))∧ ∀x∈A.l,a+k≤x.1∨x.1+x.2≤a)∨((reserve A n).2.1≠0∧(reserve A n).2.2.l=A.l∧(reserve A n).2.2.S=A.S):=by
  unfold reserve
  by_cases h1:ArenaMath.far A n
  · rw [if_pos h1];exact .inr ⟨(show (2:Int)≠0 by decide),rfl,rfl⟩
  · rw [if_neg h1]
    by_cases h2:A.T.headD false=true∨A.lim<ArenaMath.total A.l+n.toNat
    · rw [if_pos h2];exact .inr ⟨(show (4:Int)≠0 by decide),rfl,rfl⟩
    · rw [if_neg h2]
      cases hsp:ArenaMath.spot A.S A.l n.toNat with
      |none=>exact .inr ⟨(show (4:Int)≠0 by decide),rfl,rfl⟩
      | some a=>
        obtain ⟨s1,s2,_⟩:=ArenaMath.spot_some hsp
        have h3:1≤n∧n≤(A.S:Int):=Decidable.not_not.1 h1
        refine .inl ⟨a,n.toNat,by omega,by omega,rfl,s1,fun x=>(ArenaMath.mem_put hA.ok s2 (by omega)).trans Or.comm,fun x hx=> ?_⟩
        have h4:=s2 _ hx
        omega
section
variable {w0 w w' w1:World} {C:SgC w0} {K:HpC w0 C} {s p q g f m k cap:Nat} {hb:Nat→Nat} {own own':Nat→Prop} {O:Nat→Nat→Prop} {B:Nat→List SB} {R:List SB} {P P':SY} {L L':List Nat} {S S' T:Nat→Prop} {F F':FR} {st st':ByteArray} {a:Option Addr}
theorem OS.pls (z:OS C K s p q hb P L S w): ∀X∈P.all,(X.pl,1)∈P.A.l:=fun X hX=>by
  obtain ⟨⟨g,own,O,B,R,z1,z2⟩,h5,h6,h7⟩:=z
  rw [z1.all] at hX
  obtain ⟨b,hb1,rfl⟩:=List.mem_map.1 hX
  exact z1.env.pls b hb1
theorem OS.goodA (z:OS C K s p q hb P L S w):ArenaMath.Good P.A:=by
  obtain ⟨⟨g,own,O,B,R,z1,z2⟩,_⟩:=z
  exact z1.env.ar.good
theorem OS.size (z:OS C K s p q hb P L S w):P.A.S*16384=L.length:=by
  obtain ⟨⟨g,own,O,B,R,z1,z2⟩,_⟩:=z
  exact z1.env.size
theorem OS.hul (z:OS C K s p q hb P L S w): ∀i,i<64→P.hu i≤64:=by
  obtain ⟨⟨g,own,O,B,R,z1,z2⟩,_⟩:=z
  exact z1.hul
theorem sy_ask (z:OS C K s p q hb P L S w) (n:Int) (hr:P.A.r≤1000000000000):
    Calls Tryz.prog 77 #[.pointer (some ⟨q,0,none⟩), .int .i64 n] w fun e w'=>e= .returned (.tuple #[.int .i64 (reserve P.A n).1, .int .i64 (reserve P.A n).2.1])∧OS C K s p q hb {P with A:=(reserve P.A n).2.2} L S w'∧Still S w w':=by
  have hpl:=z.pls;have hgA:=z.goodA
  have hS:=(reserve_same P.A n).1
  have hl: ∀X∈P.all,(X.pl,1)∈(reserve P.A n).2.2.l:=fun X hX=>by
    rcases reserve_n P.A hgA n with ⟨a,k,e1,e2,e3,e4,e5,_⟩|⟨_,e2,_⟩
    · rw [e3];exact (e5 _).2 (.inl (hpl X hX))
    · rw [e2];exact hpl X hX
  have z':=z
  obtain ⟨⟨g,own,O,B,R,z1,z2⟩,h5,h6,h7⟩:=z'
  refine (reserve_any z1.env.ar n hr).mono ?_
  rintro e w' ⟨rfl,k1,u⟩
  obtain ⟨own',ia,ho⟩:=k1
  have hoE: ∀k,own k→SyO s p g own O (allB B R) k:=fun k hk=> .inr (.inl (.inr (.inr (.inl hk))))
  refine ⟨rfl,⟨⟨g,own',O,B,R,z1.arena ia ho u hS fun b hb1=>hl b.X (by rw [z1.all];exact List.mem_map.2 ⟨b,hb1,rfl⟩),fun k hk e=> ?_⟩,h5.trans (u.below (fun k hk=>z1.lo k (hoE k hk)) h5.size),fun k hk=>Nat.lt_of_lt_of_le (h6 k hk) u.size,h7⟩,u.mono fun k hk=>z2 k (hoE k hk)⟩
  rcases hk with x|(x|x|x|x)|x
  · exact z2 k (.inl x) e
  · exact z2 k (.inr (.inl (.inl x))) e
  · exact z2 k (.inr (.inl (.inr (.inl x)))) e
  · rcases ho k x with y|y
    · exact z2 k (hoE k y) e
    · have:=h6 k e;omega
  · exact z2 k (.inr (.inl (.inr (.inr (.inr x))))) e
  · exact z2 k (.inr (.inr x)) e
set_option maxHeartbeats 1000000 in
theorem sy_reserve (z:OS C K s p q hb P L S w) (n:Int) (hr:P.A.r≤1000000000000):
    Calls Tryz.prog 174 #[.pointer (some ⟨s,0,none⟩), .int .i64 n] w fun e w'=>e= .returned (.tuple #[.int .u64 ((resE P n).1:Int), .int .i64 (resE P n).2.1])∧OS C K s p q hb (resE P n).2.2 L S w'∧Still S w w':=by
  have c1:=z.cs.c1
  have RS:=sy_ask z n hr
  rcases reserve_n P.A z.goodA n with ⟨j,k,rfl,e2,e3,e4,e5,_⟩|⟨hne,_,_⟩
  · have hS:=z.goodA.S2
    have e9:resE P (k:Int)=(j*16384,0,{P with A:=P.A.give j k,hu:=fun i=>if i=j then k else P.hu i}):=by
      unfold resE
      rw [e3,if_neg (by simp)]
      simp
    rw [e9]
    rw [e3] at RS
    have RS:=Lib.hid RS
    have hj:j<64:=by omega
    have hk:k≤64:=by omega
    have AD:=code_addr
    have AD:=Lib.hid (fun w=>code_addr w (j:Int) 0 0 (by omega) (by omega) (by omega))
    have ea:=addr_of (g:=j) (l:=0) (o:=0) (by omega) (by omega) (by omega)
    rw [show ((0:Nat):Int)=0 from rfl] at ea
    rw [ea.1,ea.2] at AD
    have q1:(0:Int)≤(j:Int):=by omega
    have q2:(j:Int)<64:=by omega
    have PH:=Lib.hid (fun w' (z:OS C K s p q hb {P with A:=P.A.give j k} L S w')=>z.putHuge hj hk (V:=(k:Int)) rfl)
    have CH:=Lib.hid (fun w' (z:OS C K s p q hb {P with A:=P.A.give j k} L S w')=>(And.intro (z.cs.huge hj) (z.cs.frozen (77+j))))
    clear z hr e2 e3 e4 e5 hS e9 hj hk ea
    go_enter Tryz.func174,Tryz.ntmps174
    go_wp2_with fail
    refine RS.out.mono ?_;rintro e w1 ⟨rfl,z1,u1⟩
    obtain ⟨d1,d2⟩:=CH.out _ z1
    have P1:=Lib.hid (PH.out _ z1)
    have U1:=Lib.hid u1
    clear z1 u1 c1
    go_wp2_with fail
    refine (AD.out _).mono ?_;rintro e w2 ⟨rfl,hb2⟩
    have B2:=Lib.hid hb2
    clear hb2
    go_wp2
    go_ret2
    exact ⟨rfl,P1.out.1.grew B2.out,(U1.out.trans P1.out.2).step (updFalse_of B2.out) fun _ x=>x.elim⟩
  · have e9:resE P n=(0,(reserve P.A n).2.1,{P with A:=(reserve P.A n).2.2}):=if_pos hne
    rw [e9]
    obtain ⟨r1,hr1⟩: ∃x,(reserve P.A n).1=x:=⟨_,rfl⟩
    obtain ⟨er,her⟩: ∃x,(reserve P.A n).2.1=x:=⟨_,rfl⟩
    obtain ⟨A2,hA2⟩: ∃x,(reserve P.A n).2.2=x:=⟨_,rfl⟩
    rw [hr1,her,hA2] at RS
    rw [her,hA2]
    have t1:(er !=0)=true:=by rw [bne_iff_ne,←her];exact hne
    have RS:=Lib.hid RS
    clear z hr hne e9 hr1 her hA2
    go_enter Tryz.func174,Tryz.ntmps174
    go_wp2_with fail
    refine RS.out.mono ?_;rintro e w1 ⟨rfl,z1,u1⟩
    have P1:=Lib.hid (And.intro z1 u1)
    clear z1 u1 c1
    go_wp2
    go_ret2
    exact ⟨rfl,P1.out⟩
end
end Go.Proofs.YtippfeplogkaiaaGreatDoor
