/- CallsE: texts of layers below, joined (CallN CallO CallP CallQ). -/
import Derived.Test.YtpibbcnkgdmcbaaGreatDoorCallsD
import Derived.Deep.RegionLaw
set_option linter.unusedVariables false
set_option maxRecDepth 100000
set_option maxHeartbeats 8000000
namespace Go.Proofs.YtpibbcnkgdmcbaaGreatDoor
open Go.RowKit aC aF aG aI au aD aB aA bf
theorem Ak:(jJ.toList== [100,111,110,101])=false:=by rw [ByteArray.toList_eq];rfl
theorem JN:(qV.toList== [100,111,110,101])=false:=by rw [ByteArray.toList_eq];rfl
theorem Ef:(kV.toList== [100,111,110,101])=false:=by rw [ByteArray.toList_eq];rfl
theorem LJ:(o8.toList== [100,111,110,101])=false:=by rw [ByteArray.toList_eq];rfl
theorem x9:(jf.toList== [100,111,110,101])=false:=by rw [ByteArray.toList_eq];rfl
theorem wJ:(je.toList== [100,111,110,101])=false:=by rw [ByteArray.toList_eq];rfl
theorem T9:(qW.toList== [100,111,110,101])=false:=by rw [ByteArray.toList_eq];rfl
theorem wK:(lq.toList== [100,111,110,101])=false:=by rw [ByteArray.toList_eq];rfl
theorem PV:(Bb.toList== [100,111,110,101])=false:=by rw [ByteArray.toList_eq];rfl
theorem BS:(kL.toList== [100,111,110,101])=false:=by rw [ByteArray.toList_eq];rfl
theorem LM:(mE.toList== [100,111,110,101])=false:=by rw [ByteArray.toList_eq];rfl
theorem BU:(cK.toList== [100,111,110,101])=true:=by rw [ByteArray.toList_eq];rfl
theorem IB (P:SY) (t:Nat):Cu P t=cK∨Cu P t=mE:=by unfold Cu;split<;>simp
theorem vH (P:SY) (F:FR):fD P F=o8∨fD P F=jf∨fD P F=cK∨fD P F=mE∨fD P F=je:=by
 unfold fD;split
 · exact .inl rfl
 · split
   · exact .inr (.inl rfl)
   · split
     · rcases IB P F.t with e|e
       · exact .inr (.inr (.inl e))
       · exact .inr (.inr (.inr (.inl e)))
     · split
       · exact .inr (.inr (.inr (.inr rfl)))
       · exact .inr (.inr (.inl rfl))
section
variable {w0 w w' w1:World} {C:fH w0} {K:kW w0 C} {s p q g f m k cap:Nat} {hb:Nat→Nat} {own own':Nat→Prop} {O:Nat→Nat→Prop} {B:Nat→List SB} {R:List SB} {P P':SY} {L L':List Nat} {S S' T:Nat→Prop} {F F':FR} {st st':ByteArray} {a:Option Addr}
theorem WJ (w:World):iF w (.slice none 0 0) []:=⟨Seq.nil w,⟨_,_,_,rfl,Nat.le_refl _,by decide⟩,fun x hx=>by cases hx⟩
theorem sS (n:aQ C K s p q hb S f m a k cap w P L F st w') (hw:w.heap.size≤w'.heap.size):
 Calls Tryz.prog 22 #[.pointer (some ⟨f,0,none⟩)] w' fun e w1=>e= .returned (.string (zh P F))∧After C K s p q hb S f m w P L (p9 P F) st w1:=by
 have c1:=n.fr.Q6;have PG:=Lib.hid (Dl n.os n.fr.t8 (WJ w') (by decide));have N:=Lib.hid n;have X7:=Lib.hid (fun w1 (h:Below w'.heap.size w' w1)=>(And.intro (N.out.grew h).fr.Xz ((N.out.grew h).fr.fz 16)));have GO:=fun w1 S1 a1 k1 zf (n:aQ C K s p q hb S1 f m a1 k1 zf w P L (p9 P F) st w1)=>sH n.os n.fr;obtain ⟨hh,Mh⟩: ∃x,hb F.t=x:=⟨_,rfl⟩;rw [Mh] at c1 PG;have HW:=Lib.hid hw;have MK:Hid (∀w1 a2 k2 cap2,Seq Elem.jl w1 (.slice a2 k2 cap2) (iD (P.H F.t) [])→k2≤cap2→cap2≤9223372036854775807→(∀b,In (.slice a2 k2 cap2) b→w'.heap.size≤b)→Below w'.heap.size w' w1→aQ C K s p q hb (fun b=>S b∨(w'.heap.size≤b∧b<w1.heap.size)) f m a2 k2 cap2 w P L (p9 P F) st (w1.setCell ⟨f,16,none⟩ (.slice a2 k2 cap2))):=Lib.hid fun w1 a2 k2 cap2 h1 h2 h3 h4 h5=>N.out.list HW.out h5 h1 ⟨h2,h3⟩ h4;have FIN:Hid (∀(w1 w2:World) a2 k2 cap2,aQ C K s p q hb (fun b=>S b∨(w'.heap.size≤b∧b<w1.heap.size)) f m a2 k2 cap2 w P L (p9 P F) st w2→After C K s p q hb S f m w P L (p9 P F) st w2):=Lib.hid fun w1 w2 a2 k2 cap2 h=>⟨_,_,_,_,h,fun b hb=> .inl hb,fun b hb=>hb.elim .inl fun h=> .inr (Nat.le_trans HW.out h.1)⟩;have key: ∀gs:ByteArray,fD P (p9 P F)=gs→ ∀r:ByteArray,zh P F=r→(∀(h:(gs.toList== [100,111,110,101])=true),r=kL)→(∀(h:(gs.toList== [100,111,110,101])=false),r=gs)→Calls Tryz.prog 22 #[.pointer (some ⟨f,0,none⟩)] w' fun e w1=>e= .returned (.string r)∧After C K s p q hb S f m w P L (p9 P F) st w1:=by
  intro gs hgs r hr hr1 hr2;rw [hgs] at GO;have GO:=Lib.hid GO;have R1:=Lib.hid hr1;have R2:=Lib.hid hr2;obtain ⟨t,ht⟩: ∃t,(gs.toList== [100,111,110,101])=t:=⟨_,rfl⟩;rw [ht] at R1 R2;clear n hw Mh hgs hr hr1 hr2;cases t with
  |true=>
   go_enter Tryz.func22,Tryz.ntmps22
   go_wp2_with fail
   refine PG.out.mono ?_;rintro e w2 ⟨a2,k2,cap2,rfl,hs,hk1,hk2,hi,hb2⟩;have N2:=Lib.hid (MK.out w2 a2 k2 cap2 hs hk1 hk2 hi hb2);obtain ⟨Yo,f16⟩:=X7.out _ hb2;clear hs hi hb2 c1;go_wp2_with fail
   refine (GO.out _ _ _ _ _ N2.out).mono ?_;rintro e w3 ⟨rfl,hb3⟩;have N3:=Lib.hid (N2.out.grew hb3);clear hb3;go_wp2;go_ret;rw [R1.out trivial];exact ⟨rfl,FIN.out _ _ _ _ _ N3.out⟩
  |false=>
   go_enter Tryz.func22,Tryz.ntmps22
   go_wp2_with fail
   refine PG.out.mono ?_;rintro e w2 ⟨a2,k2,cap2,rfl,hs,hk1,hk2,hi,hb2⟩;have N2:=Lib.hid (MK.out w2 a2 k2 cap2 hs hk1 hk2 hi hb2);obtain ⟨Yo,f16⟩:=X7.out _ hb2;clear hs hi hb2 c1;go_wp2_with fail
   refine (GO.out _ _ _ _ _ N2.out).mono ?_;rintro e w3 ⟨rfl,hb3⟩;have N3:=Lib.hid (N2.out.grew hb3);clear hb3;go_wp2;go_ret;rw [R2.out trivial];exact ⟨rfl,FIN.out _ _ _ _ _ N3.out⟩
 refine key _ rfl _ rfl (fun h=> ?_) (fun h=> ?_)
 · unfold zh
   rcases vH P (p9 P F) with e|e|e|e|e
   · rw [e,LJ] at h;cases h
   · rw [e,x9] at h;cases h
   · rw [e];rfl
   · rw [e,LM] at h;cases h
   · rw [e,wJ] at h;cases h
 · unfold zh
   rcases vH P (p9 P F) with e|e|e|e|e
   · rw [e];rfl
   · rw [e];rfl
   · rw [e,BU] at h;cases h
   · rw [e];rfl
   · rw [e];rfl
end
end Go.Proofs.YtpibbcnkgdmcbaaGreatDoor
namespace Go.Proofs.YtpibbcnkgdmcbaaGreatDoor
open Go.RowKit aC aF aG aI au aD aB aA bf
def mD (kd:Int) (ad n al:Nat) (z fo:Bool):Value:= .agg #[.int .i64 kd, .int .u64 (ad:Int), .int .u64 (n:Int), .int .u64 (al:Int), .bool z, .bool fo]
def jS (t:Nat) (kd:Int) (ad n al:Nat) (z fo:Bool):FR:=⟨t,kd,ad,n,al,z,fo,0,0,0,0,0, [],0,0,0,none,none,0,0,0⟩
abbrev nE:ByteArray:={data:= #[]}
def XD (P:SY) (F:FR):FR:=if F.kd=1 then zi F else if F.kd=4∨F.kd=5 then p9 P F else F
def U6 (P:SY) (F:FR):ByteArray:=if F.kd=1 then sU F else if F.kd=2 then lq else if F.kd=3 then Bb else zh P F
section
variable {w0 w w' w1 w2:World} {C:fH w0} {K:kW w0 C} {s p q g f m k cap:Nat} {hb:Nat→Nat} {own own':Nat→Prop} {O:Nat→Nat→Prop} {B:Nat→List SB} {R:List SB} {P P':SY} {L L':List Nat} {S S' T:Nat→Prop} {F F':FR} {st st':ByteArray} {a:Option Addr}
theorem mh (z:OS C K s p q hb P L S w) (t:Nat) (ht:t<8) {kd:Int} {ad n al:Nat} {zz fo:Bool} (h1:Below w.heap.size w w1) (h2:dh w2 m) (hm:w.heap.size≤m) (h3:Below w1.heap.size w1 w2) (st:ByteArray):
 aQ C K s p q hb (fun b=>S b∨(w.heap.size≤b∧b<w2.heap.size+1)) w2.heap.size m none 0 0 w P L (jS t kd ad n al zz fo) st (w2.alloc (.cells (J7 s hb (jS t kd ad n al zz fo) st m (.slice none 0 0)) 78)):=by
 have b2:=ah h1 h1.size h3;have b3:=b2.alloc b2.size (.cells (J7 s hb (jS t kd ad n al zz fo) st m (.slice none 0 0)) 78);have zo:=z.ours b3;rw [World.size_alloc] at zo;have hs:=b2.size;have hlt:=h2.lt;refine ⟨zo,⟨aV.new w2 _ _,Seq.nil _,⟨Nat.le_refl _,by decide⟩,fun b hb=>(by cases hb), ?_,⟨.inr ⟨hm,by omega⟩,by omega⟩, .inr ⟨hs,by omega⟩,ht⟩, ?_⟩
 · exact h2.upd (ak ((Below.refl _ w2).alloc (Nat.le_refl _) _)) fun x=>x
 · exact (ak b3).mono fun _ x=>x.elim
theorem XE (z:OS C K s p q hb P L S w) {t:Nat} (ht:t<8) {kd:Int} (hk:kd<1∨5<kd) {ad n al:Nat} {zz fo:Bool}:Calls Tryz.prog 6 #[.pointer (some ⟨s,0,none⟩), .int .i64 (t:Int),mD kd ad n al zz fo] w fun e w'=>e= .returned (.tuple #[.pointer none, .int .i64 2])∧Below w.heap.size w w':=by
 have I:=Lib.hid (fun w=>iw w ht);have ID:=Lib.hid (fun w=>kE w ht);have q1:(0:Int)≤(t:Int):=by omega
 have q2:(t:Int)<8:=by omega
 have t1:(kd==1)=false:=by rw [beq_eq_false_iff_ne];omega
 have t2:(kd==2)=false:=by rw [beq_eq_false_iff_ne];omega
 have t3:(kd==3)=false:=by rw [beq_eq_false_iff_ne];omega
 have t4:(kd==4)=false:=by rw [beq_eq_false_iff_ne];omega
 have t5:(kd==5)=false:=by rw [beq_eq_false_iff_ne];omega
 have hc:=z.cs.heap ht;have hslt:=z.cs.lt;unfold mD;obtain ⟨W,hW⟩: ∃W,w.alloc (.cells #[.int .i64 kd, .int .u64 (ad:Int), .int .u64 (n:Int), .int .u64 (al:Int), .bool zz, .bool fo] 32)=W:=⟨_,rfl⟩;have nb:aV W w.heap.size 32 #[.int .i64 kd, .int .u64 (ad:Int), .int .u64 (n:Int), .int .u64 (al:Int), .bool zz, .bool fo]:=by rw [←hW];exact aV.new w _ _
 have hb1:Below w.heap.size w W:=by rw [←hW];exact (Below.refl _ w).alloc (Nat.le_refl _) _
 have hs1:W.heap.size=w.heap.size+1:=by rw [←hW];exact World.size_alloc _ _
 have D:=Lib.hid (fun w1 (h:Below W.heap.size W w1)=>show w1.cell? ⟨s,69+t,none⟩=some (.pointer (some ⟨hb t,0,none⟩))∧w1.cell? ⟨w.heap.size,0,none⟩=some (.int .i64 kd)∧w1.cell? ⟨w.heap.size,1,none⟩=some (.int .u64 (ad:Int))∧w1.cell? ⟨w.heap.size,2,none⟩=some (.int .u64 (n:Int))∧w1.cell? ⟨w.heap.size,3,none⟩=some (.int .u64 (al:Int))∧w1.cell? ⟨w.heap.size,4,none⟩=some (.bool zz)∧w1.cell? ⟨w.heap.size,5,none⟩=some (.bool fo) from by
  have hx:=nb.grew h;refine ⟨?_,hx.cell 0,hx.cell 1,hx.cell 2,hx.cell 3,hx.cell 4,hx.cell 5⟩;rw [(ah hb1 hb1.size h).cell (p:=⟨s,69+t,none⟩) hslt];exact hc)
 have B1:=Lib.hid hb1;have ST:=Lib.hid (fun w1=>jX w1);have DW:=D.out W (Below.refl _ _);have R_:=Lib.hid hs1;clear z ht hk hc hslt nb hb1 hs1;go_enter Tryz.func6,Tryz.ntmps6
 go_wp2_with fail
 refine (I.out _).mono ?_;rintro e w1 ⟨rfl,rfl⟩;clear hW;have B0:=Lib.hid ((Below.refl w1.heap.size w1).drew);go_wp2;go_region_held3 (fun w'=>w'.cell? ⟨s,69+t,none⟩=some (.pointer (some ⟨hb t,0,none⟩))∧w'.cell? ⟨w.heap.size,0,none⟩=some (.int .i64 kd)∧w'.cell? ⟨w.heap.size,1,none⟩=some (.int .u64 (ad:Int))∧w'.cell? ⟨w.heap.size,2,none⟩=some (.int .u64 (n:Int))∧w'.cell? ⟨w.heap.size,3,none⟩=some (.int .u64 (al:Int))∧w'.cell? ⟨w.heap.size,4,none⟩=some (.bool zz)∧w'.cell? ⟨w.heap.size,5,none⟩=some (.bool fo)) (first|go_keep|exact DW|exact d7|exact D.out _ B5.out) (first
  |(go_at_call 18;(with_reducible refine (ID.out _).mono ?_);rintro e w4 ⟨rfl,k4⟩;obtain rfl:=k4.symm;clear k4)
  |(go_at_call 20;(with_reducible refine (ST.out _).mono ?_);rintro e w3 ⟨rfl,h3,hb3⟩;have H3:=Lib.hid h3;have B3:=Lib.hid (ah B0.out B0.out.size hb3);have d7:=D.out _ B3.out;have B5:=Lib.hid (B3.out.alloc B3.out.size (.cells (J7 s hb (jS t kd ad n al zz fo) nE w1.heap.size (.slice none 0 0)) 78));clear h3 hb3))
 go_wp2
 go_ret2
 exact ⟨rfl,ah B1.out B1.out.size B5.out⟩
theorem CF (z:OS C K s p q hb P L S w) (LY:Lay w0) {t:Nat} (ht:t<8) {ad n al:Nat} {zz fo:Bool} (hn:bM n) (hal:bM al):Calls Tryz.prog 6 #[.pointer (some ⟨s,0,none⟩), .int .i64 (t:Int),mD 1 ad n al zz fo] w fun e w'=> ∃f m,e= .returned (.tuple #[.pointer (some ⟨f,0,none⟩), .int .i64 0])∧w.heap.size≤f∧After C K s p q hb S f m w P L (XD P (jS t 1 ad n al zz fo)) (U6 P (jS t 1 ad n al zz fo)) w':=by
 have I:=Lib.hid (fun w=>iw w ht);have ID:=Lib.hid (fun w=>kE w ht);have q1:(0:Int)≤(t:Int):=by omega
 have q2:(t:Int)<8:=by omega
 have hc:=z.cs.heap ht;have hslt:=z.cs.lt;unfold mD;obtain ⟨W,hW⟩: ∃W,w.alloc (.cells #[.int .i64 1, .int .u64 (ad:Int), .int .u64 (n:Int), .int .u64 (al:Int), .bool zz, .bool fo] 32)=W:=⟨_,rfl⟩;have nb:aV W w.heap.size 32 #[.int .i64 1, .int .u64 (ad:Int), .int .u64 (n:Int), .int .u64 (al:Int), .bool zz, .bool fo]:=by rw [←hW];exact aV.new w _ _
 have hb1:Below w.heap.size w W:=by rw [←hW];exact (Below.refl _ w).alloc (Nat.le_refl _) _
 have hs1:W.heap.size=w.heap.size+1:=by rw [←hW];exact World.size_alloc _ _
 have D:=Lib.hid (fun w1 (h:Below W.heap.size W w1)=>show w1.cell? ⟨s,69+t,none⟩=some (.pointer (some ⟨hb t,0,none⟩))∧w1.cell? ⟨w.heap.size,0,none⟩=some (.int .i64 1)∧w1.cell? ⟨w.heap.size,1,none⟩=some (.int .u64 (ad:Int))∧w1.cell? ⟨w.heap.size,2,none⟩=some (.int .u64 (n:Int))∧w1.cell? ⟨w.heap.size,3,none⟩=some (.int .u64 (al:Int))∧w1.cell? ⟨w.heap.size,4,none⟩=some (.bool zz)∧w1.cell? ⟨w.heap.size,5,none⟩=some (.bool fo) from by
  have hx:=nb.grew h;refine ⟨?_,hx.cell 0,hx.cell 1,hx.cell 2,hx.cell 3,hx.cell 4,hx.cell 5⟩;rw [(ah hb1 hb1.size h).cell (p:=⟨s,69+t,none⟩) hslt];exact hc)
 have B1:=Lib.hid hb1;have ST:=Lib.hid (fun w1=>jX w1);have DW:=D.out W (Below.refl _ _);have R_:=Lib.hid hs1;have HW1:=Lib.hid hb1;have FN:=Lib.hid (fun st w2 (h2:dh w2 W.heap.size) (h:w.heap.size≤W.heap.size) (h3:Below W.heap.size W w2)=>mh z t ht (kd:=1) (ad:=ad) (n:=n) (al:=al) (zz:=zz) (fo:=fo) hb1 h2 h h3 st);have FIN:Hid (∀(w2 w3:World) f m a k cap F st,w.heap.size≤f→aQ C K s p q hb (fun b=>S b∨(w.heap.size≤b∧b<w2.heap.size+1)) f m a k cap w P L F st w3→After C K s p q hb S f m w P L F st w3):=Lib.hid fun w2 w3 f m a k cap F st h1 h=>⟨_,_,_,_,h,fun b hb=> .inl hb,fun b hb=>hb.elim .inl fun h=> .inr h.1⟩;have BM:=Lib.hid (fun S1 f1 m1 a1 k1 zf w1 st (n2:aQ C K s p q hb S1 f1 m1 a1 k1 zf w P L (jS t 1 ad n al zz fo) st w1)=>CB LY n2 hn hal);clear z LY hn hal ht hc hslt nb hb1 hs1;go_enter Tryz.func6,Tryz.ntmps6
 go_wp2_with fail
 refine (I.out _).mono ?_;rintro e w1 ⟨rfl,rfl⟩;clear hW;have B0:=Lib.hid ((Below.refl w1.heap.size w1).drew);go_wp2;go_region_held3 (fun w'=>w'.cell? ⟨s,69+t,none⟩=some (.pointer (some ⟨hb t,0,none⟩))∧w'.cell? ⟨w.heap.size,0,none⟩=some (.int .i64 1)∧w'.cell? ⟨w.heap.size,1,none⟩=some (.int .u64 (ad:Int))∧w'.cell? ⟨w.heap.size,2,none⟩=some (.int .u64 (n:Int))∧w'.cell? ⟨w.heap.size,3,none⟩=some (.int .u64 (al:Int))∧w'.cell? ⟨w.heap.size,4,none⟩=some (.bool zz)∧w'.cell? ⟨w.heap.size,5,none⟩=some (.bool fo)) (first|go_keep|exact DW|exact d7|exact D.out _ B5.out) (first
  |(go_at_call 18;(with_reducible refine (ID.out _).mono ?_);rintro e w4 ⟨rfl,k4⟩;obtain rfl:=k4.symm;clear k4)
  |(go_at_call 20;(with_reducible refine (ST.out _).mono ?_);rintro e w3 ⟨rfl,h3,hb3⟩;have H3:=Lib.hid h3;have B3:=Lib.hid (ah B0.out B0.out.size hb3);have d7:=D.out _ B3.out;have B5:=Lib.hid (B3.out.alloc B3.out.size (.cells (J7 s hb (jS t 1 ad n al zz fo) nE w1.heap.size (.slice none 0 0)) 78));have NF:=Lib.hid (FN.out nE _ h3 (Nat.le_trans (by omega) (Nat.le_of_eq R_.out.symm)) B3.out);clear h3 hb3))
 go_wp2_with fail
 refine (BM.out _ _ _ _ _ _ _ _ NF.out).mono ?_;rintro e w5 ⟨rfl,n5⟩;have e10:=n5.fr.I4;have f10:=n5.fr.fz 10;have N5:=Lib.hid (n5.put 10 (.string (sU (jS t 1 ad n al zz fo))) (zi (jS t 1 ad n al zz fo)) (sU (jS t 1 ad n al zz fo)) rfl rfl rfl);clear n5;go_wp2
 go_ret2
 exact ⟨_,_,rfl,Nat.le_trans B1.out.size B3.out.size,FIN.out _ _ _ _ _ _ _ _ _ (Nat.le_trans B1.out.size B3.out.size) N5.out⟩
theorem Kj (z:OS C K s p q hb P L S w) {t:Nat} (ht:t<8) {ad n al:Nat} {zz fo:Bool}:Calls Tryz.prog 6 #[.pointer (some ⟨s,0,none⟩), .int .i64 (t:Int),mD 2 ad n al zz fo] w fun e w'=> ∃f m,e= .returned (.tuple #[.pointer (some ⟨f,0,none⟩), .int .i64 0])∧w.heap.size≤f∧After C K s p q hb S f m w P L (XD P (jS t 2 ad n al zz fo)) (U6 P (jS t 2 ad n al zz fo)) w':=by
 have I:=Lib.hid (fun w=>iw w ht);have ID:=Lib.hid (fun w=>kE w ht);have q1:(0:Int)≤(t:Int):=by omega
 have q2:(t:Int)<8:=by omega
 have hc:=z.cs.heap ht;have hslt:=z.cs.lt;unfold mD;obtain ⟨W,hW⟩: ∃W,w.alloc (.cells #[.int .i64 2, .int .u64 (ad:Int), .int .u64 (n:Int), .int .u64 (al:Int), .bool zz, .bool fo] 32)=W:=⟨_,rfl⟩;have nb:aV W w.heap.size 32 #[.int .i64 2, .int .u64 (ad:Int), .int .u64 (n:Int), .int .u64 (al:Int), .bool zz, .bool fo]:=by rw [←hW];exact aV.new w _ _
 have hb1:Below w.heap.size w W:=by rw [←hW];exact (Below.refl _ w).alloc (Nat.le_refl _) _
 have hs1:W.heap.size=w.heap.size+1:=by rw [←hW];exact World.size_alloc _ _
 have D:=Lib.hid (fun w1 (h:Below W.heap.size W w1)=>show w1.cell? ⟨s,69+t,none⟩=some (.pointer (some ⟨hb t,0,none⟩))∧w1.cell? ⟨w.heap.size,0,none⟩=some (.int .i64 2)∧w1.cell? ⟨w.heap.size,1,none⟩=some (.int .u64 (ad:Int))∧w1.cell? ⟨w.heap.size,2,none⟩=some (.int .u64 (n:Int))∧w1.cell? ⟨w.heap.size,3,none⟩=some (.int .u64 (al:Int))∧w1.cell? ⟨w.heap.size,4,none⟩=some (.bool zz)∧w1.cell? ⟨w.heap.size,5,none⟩=some (.bool fo) from by
  have hx:=nb.grew h;refine ⟨?_,hx.cell 0,hx.cell 1,hx.cell 2,hx.cell 3,hx.cell 4,hx.cell 5⟩;rw [(ah hb1 hb1.size h).cell (p:=⟨s,69+t,none⟩) hslt];exact hc)
 have B1:=Lib.hid hb1;have ST:=Lib.hid (fun w1=>jX w1);have DW:=D.out W (Below.refl _ _);have R_:=Lib.hid hs1;have HW1:=Lib.hid hb1;have FN:=Lib.hid (fun st w2 (h2:dh w2 W.heap.size) (h:w.heap.size≤W.heap.size) (h3:Below W.heap.size W w2)=>mh z t ht (kd:=2) (ad:=ad) (n:=n) (al:=al) (zz:=zz) (fo:=fo) hb1 h2 h h3 st);have FIN:Hid (∀(w2 w3:World) f m a k cap F st,w.heap.size≤f→aQ C K s p q hb (fun b=>S b∨(w.heap.size≤b∧b<w2.heap.size+1)) f m a k cap w P L F st w3→After C K s p q hb S f m w P L F st w3):=Lib.hid fun w2 w3 f m a k cap F st h1 h=>⟨_,_,_,_,h,fun b hb=> .inl hb,fun b hb=>hb.elim .inl fun h=> .inr h.1⟩;clear z ht hc hslt nb hb1 hs1;go_enter Tryz.func6,Tryz.ntmps6
 go_wp2_with fail
 refine (I.out _).mono ?_;rintro e w1 ⟨rfl,rfl⟩;clear hW;have B0:=Lib.hid ((Below.refl w1.heap.size w1).drew);go_wp2;go_region_held3 (fun w'=>w'.cell? ⟨s,69+t,none⟩=some (.pointer (some ⟨hb t,0,none⟩))∧w'.cell? ⟨w.heap.size,0,none⟩=some (.int .i64 2)∧w'.cell? ⟨w.heap.size,1,none⟩=some (.int .u64 (ad:Int))∧w'.cell? ⟨w.heap.size,2,none⟩=some (.int .u64 (n:Int))∧w'.cell? ⟨w.heap.size,3,none⟩=some (.int .u64 (al:Int))∧w'.cell? ⟨w.heap.size,4,none⟩=some (.bool zz)∧w'.cell? ⟨w.heap.size,5,none⟩=some (.bool fo)) (first|go_keep|exact DW|exact d7|exact D.out _ B5.out) (first
  |(go_at_call 18;(with_reducible refine (ID.out _).mono ?_);rintro e w4 ⟨rfl,k4⟩;obtain rfl:=k4.symm;clear k4)
  |(go_at_call 20;(with_reducible refine (ST.out _).mono ?_);rintro e w3 ⟨rfl,h3,hb3⟩;have H3:=Lib.hid h3;have B3:=Lib.hid (ah B0.out B0.out.size hb3);have d7:=D.out _ B3.out;have B5:=Lib.hid (B3.out.alloc B3.out.size (.cells (J7 s hb (jS t 2 ad n al zz fo) nE w1.heap.size (.slice none 0 0)) 78));have NF:=Lib.hid (FN.out lq _ h3 (Nat.le_trans (by omega) (Nat.le_of_eq R_.out.symm)) B3.out);clear h3 hb3))
 go_wp2
 go_ret2
 exact ⟨_,_,rfl,Nat.le_trans B1.out.size B3.out.size,FIN.out _ _ _ _ _ _ _ _ _ (Nat.le_trans B1.out.size B3.out.size) NF.out⟩
theorem Va (z:OS C K s p q hb P L S w) {t:Nat} (ht:t<8) {ad n al:Nat} {zz fo:Bool}:Calls Tryz.prog 6 #[.pointer (some ⟨s,0,none⟩), .int .i64 (t:Int),mD 3 ad n al zz fo] w fun e w'=> ∃f m,e= .returned (.tuple #[.pointer (some ⟨f,0,none⟩), .int .i64 0])∧w.heap.size≤f∧After C K s p q hb S f m w P L (XD P (jS t 3 ad n al zz fo)) (U6 P (jS t 3 ad n al zz fo)) w':=by
 have I:=Lib.hid (fun w=>iw w ht);have ID:=Lib.hid (fun w=>kE w ht);have q1:(0:Int)≤(t:Int):=by omega
 have q2:(t:Int)<8:=by omega
 have hc:=z.cs.heap ht;have hslt:=z.cs.lt;unfold mD;obtain ⟨W,hW⟩: ∃W,w.alloc (.cells #[.int .i64 3, .int .u64 (ad:Int), .int .u64 (n:Int), .int .u64 (al:Int), .bool zz, .bool fo] 32)=W:=⟨_,rfl⟩;have nb:aV W w.heap.size 32 #[.int .i64 3, .int .u64 (ad:Int), .int .u64 (n:Int), .int .u64 (al:Int), .bool zz, .bool fo]:=by rw [←hW];exact aV.new w _ _
 have hb1:Below w.heap.size w W:=by rw [←hW];exact (Below.refl _ w).alloc (Nat.le_refl _) _
 have hs1:W.heap.size=w.heap.size+1:=by rw [←hW];exact World.size_alloc _ _
 have D:=Lib.hid (fun w1 (h:Below W.heap.size W w1)=>show w1.cell? ⟨s,69+t,none⟩=some (.pointer (some ⟨hb t,0,none⟩))∧w1.cell? ⟨w.heap.size,0,none⟩=some (.int .i64 3)∧w1.cell? ⟨w.heap.size,1,none⟩=some (.int .u64 (ad:Int))∧w1.cell? ⟨w.heap.size,2,none⟩=some (.int .u64 (n:Int))∧w1.cell? ⟨w.heap.size,3,none⟩=some (.int .u64 (al:Int))∧w1.cell? ⟨w.heap.size,4,none⟩=some (.bool zz)∧w1.cell? ⟨w.heap.size,5,none⟩=some (.bool fo) from by
  have hx:=nb.grew h;refine ⟨?_,hx.cell 0,hx.cell 1,hx.cell 2,hx.cell 3,hx.cell 4,hx.cell 5⟩;rw [(ah hb1 hb1.size h).cell (p:=⟨s,69+t,none⟩) hslt];exact hc)
 have B1:=Lib.hid hb1;have ST:=Lib.hid (fun w1=>jX w1);have DW:=D.out W (Below.refl _ _);have R_:=Lib.hid hs1;have HW1:=Lib.hid hb1;have FN:=Lib.hid (fun st w2 (h2:dh w2 W.heap.size) (h:w.heap.size≤W.heap.size) (h3:Below W.heap.size W w2)=>mh z t ht (kd:=3) (ad:=ad) (n:=n) (al:=al) (zz:=zz) (fo:=fo) hb1 h2 h h3 st);have FIN:Hid (∀(w2 w3:World) f m a k cap F st,w.heap.size≤f→aQ C K s p q hb (fun b=>S b∨(w.heap.size≤b∧b<w2.heap.size+1)) f m a k cap w P L F st w3→After C K s p q hb S f m w P L F st w3):=Lib.hid fun w2 w3 f m a k cap F st h1 h=>⟨_,_,_,_,h,fun b hb=> .inl hb,fun b hb=>hb.elim .inl fun h=> .inr h.1⟩;clear z ht hc hslt nb hb1 hs1;go_enter Tryz.func6,Tryz.ntmps6
 go_wp2_with fail
 refine (I.out _).mono ?_;rintro e w1 ⟨rfl,rfl⟩;clear hW;have B0:=Lib.hid ((Below.refl w1.heap.size w1).drew);go_wp2;go_region_held3 (fun w'=>w'.cell? ⟨s,69+t,none⟩=some (.pointer (some ⟨hb t,0,none⟩))∧w'.cell? ⟨w.heap.size,0,none⟩=some (.int .i64 3)∧w'.cell? ⟨w.heap.size,1,none⟩=some (.int .u64 (ad:Int))∧w'.cell? ⟨w.heap.size,2,none⟩=some (.int .u64 (n:Int))∧w'.cell? ⟨w.heap.size,3,none⟩=some (.int .u64 (al:Int))∧w'.cell? ⟨w.heap.size,4,none⟩=some (.bool zz)∧w'.cell? ⟨w.heap.size,5,none⟩=some (.bool fo)) (first|go_keep|exact DW|exact d7|exact D.out _ B5.out) (first
  |(go_at_call 18;(with_reducible refine (ID.out _).mono ?_);rintro e w4 ⟨rfl,k4⟩;obtain rfl:=k4.symm;clear k4)
  |(go_at_call 20;(with_reducible refine (ST.out _).mono ?_);rintro e w3 ⟨rfl,h3,hb3⟩;have H3:=Lib.hid h3;have B3:=Lib.hid (ah B0.out B0.out.size hb3);have d7:=D.out _ B3.out;have B5:=Lib.hid (B3.out.alloc B3.out.size (.cells (J7 s hb (jS t 3 ad n al zz fo) nE w1.heap.size (.slice none 0 0)) 78));have NF:=Lib.hid (FN.out Bb _ h3 (Nat.le_trans (by omega) (Nat.le_of_eq R_.out.symm)) B3.out);clear h3 hb3))
 go_wp2
 go_ret2
 exact ⟨_,_,rfl,Nat.le_trans B1.out.size B3.out.size,FIN.out _ _ _ _ _ _ _ _ _ (Nat.le_trans B1.out.size B3.out.size) NF.out⟩
theorem U_ (z:OS C K s p q hb P L S w) {t:Nat} (ht:t<8) {ad n al:Nat} {zz fo:Bool}:Calls Tryz.prog 6 #[.pointer (some ⟨s,0,none⟩), .int .i64 (t:Int),mD 4 ad n al zz fo] w fun e w'=> ∃f m,e= .returned (.tuple #[.pointer (some ⟨f,0,none⟩), .int .i64 0])∧w.heap.size≤f∧After C K s p q hb S f m w P L (XD P (jS t 4 ad n al zz fo)) (U6 P (jS t 4 ad n al zz fo)) w':=by
 have I:=Lib.hid (fun w=>iw w ht);have ID:=Lib.hid (fun w=>kE w ht);have q1:(0:Int)≤(t:Int):=by omega
 have q2:(t:Int)<8:=by omega
 have hc:=z.cs.heap ht;have hslt:=z.cs.lt;unfold mD;obtain ⟨W,hW⟩: ∃W,w.alloc (.cells #[.int .i64 4, .int .u64 (ad:Int), .int .u64 (n:Int), .int .u64 (al:Int), .bool zz, .bool fo] 32)=W:=⟨_,rfl⟩;have nb:aV W w.heap.size 32 #[.int .i64 4, .int .u64 (ad:Int), .int .u64 (n:Int), .int .u64 (al:Int), .bool zz, .bool fo]:=by rw [←hW];exact aV.new w _ _
 have hb1:Below w.heap.size w W:=by rw [←hW];exact (Below.refl _ w).alloc (Nat.le_refl _) _
 have hs1:W.heap.size=w.heap.size+1:=by rw [←hW];exact World.size_alloc _ _
 have D:=Lib.hid (fun w1 (h:Below W.heap.size W w1)=>show w1.cell? ⟨s,69+t,none⟩=some (.pointer (some ⟨hb t,0,none⟩))∧w1.cell? ⟨w.heap.size,0,none⟩=some (.int .i64 4)∧w1.cell? ⟨w.heap.size,1,none⟩=some (.int .u64 (ad:Int))∧w1.cell? ⟨w.heap.size,2,none⟩=some (.int .u64 (n:Int))∧w1.cell? ⟨w.heap.size,3,none⟩=some (.int .u64 (al:Int))∧w1.cell? ⟨w.heap.size,4,none⟩=some (.bool zz)∧w1.cell? ⟨w.heap.size,5,none⟩=some (.bool fo) from by
  have hx:=nb.grew h;refine ⟨?_,hx.cell 0,hx.cell 1,hx.cell 2,hx.cell 3,hx.cell 4,hx.cell 5⟩;rw [(ah hb1 hb1.size h).cell (p:=⟨s,69+t,none⟩) hslt];exact hc)
 have B1:=Lib.hid hb1;have ST:=Lib.hid (fun w1=>jX w1);have DW:=D.out W (Below.refl _ _);have R_:=Lib.hid hs1;have HW1:=Lib.hid hb1;have FN:=Lib.hid (fun st w2 (h2:dh w2 W.heap.size) (h:w.heap.size≤W.heap.size) (h3:Below W.heap.size W w2)=>mh z t ht (kd:=4) (ad:=ad) (n:=n) (al:=al) (zz:=zz) (fo:=fo) hb1 h2 h h3 st);have FIN:Hid (∀(w2 w3:World) f m a k cap F st,w.heap.size≤f→aQ C K s p q hb (fun b=>S b∨(w.heap.size≤b∧b<w2.heap.size+1)) f m a k cap w P L F st w3→After C K s p q hb S f m w P L F st w3):=Lib.hid fun w2 w3 f m a k cap F st h1 h=>⟨_,_,_,_,h,fun b hb=> .inl hb,fun b hb=>hb.elim .inl fun h=> .inr h.1⟩;have BM:=Lib.hid (fun S1 f1 m1 a1 k1 zf w1 st (h:w.heap.size≤w1.heap.size) (n2:aQ C K s p q hb S1 f1 m1 a1 k1 zf w P L (jS t 4 ad n al zz fo) st w1)=>sS n2 h);clear z ht hc hslt nb hb1 hs1;go_enter Tryz.func6,Tryz.ntmps6
 go_wp2_with fail
 refine (I.out _).mono ?_;rintro e w1 ⟨rfl,rfl⟩;clear hW;have B0:=Lib.hid ((Below.refl w1.heap.size w1).drew);go_wp2;go_region_held3 (fun w'=>w'.cell? ⟨s,69+t,none⟩=some (.pointer (some ⟨hb t,0,none⟩))∧w'.cell? ⟨w.heap.size,0,none⟩=some (.int .i64 4)∧w'.cell? ⟨w.heap.size,1,none⟩=some (.int .u64 (ad:Int))∧w'.cell? ⟨w.heap.size,2,none⟩=some (.int .u64 (n:Int))∧w'.cell? ⟨w.heap.size,3,none⟩=some (.int .u64 (al:Int))∧w'.cell? ⟨w.heap.size,4,none⟩=some (.bool zz)∧w'.cell? ⟨w.heap.size,5,none⟩=some (.bool fo)) (first|go_keep|exact DW|exact d7|exact D.out _ B5.out) (first
  |(go_at_call 18;(with_reducible refine (ID.out _).mono ?_);rintro e w4 ⟨rfl,k4⟩;obtain rfl:=k4.symm;clear k4)
  |(go_at_call 20;(with_reducible refine (ST.out _).mono ?_);rintro e w3 ⟨rfl,h3,hb3⟩;have H3:=Lib.hid h3;have B3:=Lib.hid (ah B0.out B0.out.size hb3);have d7:=D.out _ B3.out;have B5:=Lib.hid (B3.out.alloc B3.out.size (.cells (J7 s hb (jS t 4 ad n al zz fo) nE w1.heap.size (.slice none 0 0)) 78));have NF:=Lib.hid (FN.out nE _ h3 (Nat.le_trans (by omega) (Nat.le_of_eq R_.out.symm)) B3.out);clear h3 hb3))
 go_wp2_with fail
 refine (BM.out _ _ _ _ _ _ _ _ (Nat.le_trans (Nat.le_trans B1.out.size B3.out.size) (by rw [World.size_alloc];exact Nat.le_succ _)) NF.out).mono ?_;rintro e w5 ⟨rfl,S5,a5,k5,cap5,n5,hs5,hs6⟩;have e10:=n5.fr.I4;have f10:=n5.fr.fz 10;have N5:=Lib.hid (n5.put 10 (.string (zh P (jS t 4 ad n al zz fo))) (p9 P (jS t 4 ad n al zz fo)) (zh P (jS t 4 ad n al zz fo)) rfl rfl rfl);have HS5:=Lib.hid (And.intro hs5 hs6);clear n5 hs5 hs6;go_wp2
 go_ret2
 exact ⟨_,_,rfl,Nat.le_trans B1.out.size B3.out.size,S5,a5,k5,cap5,N5.out,fun b hb=>HS5.out.1 b (.inl hb),fun b hb=>(HS5.out.2 b hb).elim (fun h=>h.elim .inl fun h=> .inr h.1) .inr⟩
theorem U9 (z:OS C K s p q hb P L S w) {t:Nat} (ht:t<8) {ad n al:Nat} {zz fo:Bool}:Calls Tryz.prog 6 #[.pointer (some ⟨s,0,none⟩), .int .i64 (t:Int),mD 5 ad n al zz fo] w fun e w'=> ∃f m,e= .returned (.tuple #[.pointer (some ⟨f,0,none⟩), .int .i64 0])∧w.heap.size≤f∧After C K s p q hb S f m w P L (XD P (jS t 5 ad n al zz fo)) (U6 P (jS t 5 ad n al zz fo)) w':=by
 have I:=Lib.hid (fun w=>iw w ht);have ID:=Lib.hid (fun w=>kE w ht);have q1:(0:Int)≤(t:Int):=by omega
 have q2:(t:Int)<8:=by omega
 have hc:=z.cs.heap ht;have hslt:=z.cs.lt;unfold mD;obtain ⟨W,hW⟩: ∃W,w.alloc (.cells #[.int .i64 5, .int .u64 (ad:Int), .int .u64 (n:Int), .int .u64 (al:Int), .bool zz, .bool fo] 32)=W:=⟨_,rfl⟩;have nb:aV W w.heap.size 32 #[.int .i64 5, .int .u64 (ad:Int), .int .u64 (n:Int), .int .u64 (al:Int), .bool zz, .bool fo]:=by rw [←hW];exact aV.new w _ _
 have hb1:Below w.heap.size w W:=by rw [←hW];exact (Below.refl _ w).alloc (Nat.le_refl _) _
 have hs1:W.heap.size=w.heap.size+1:=by rw [←hW];exact World.size_alloc _ _
 have D:=Lib.hid (fun w1 (h:Below W.heap.size W w1)=>show w1.cell? ⟨s,69+t,none⟩=some (.pointer (some ⟨hb t,0,none⟩))∧w1.cell? ⟨w.heap.size,0,none⟩=some (.int .i64 5)∧w1.cell? ⟨w.heap.size,1,none⟩=some (.int .u64 (ad:Int))∧w1.cell? ⟨w.heap.size,2,none⟩=some (.int .u64 (n:Int))∧w1.cell? ⟨w.heap.size,3,none⟩=some (.int .u64 (al:Int))∧w1.cell? ⟨w.heap.size,4,none⟩=some (.bool zz)∧w1.cell? ⟨w.heap.size,5,none⟩=some (.bool fo) from by
  have hx:=nb.grew h;refine ⟨?_,hx.cell 0,hx.cell 1,hx.cell 2,hx.cell 3,hx.cell 4,hx.cell 5⟩;rw [(ah hb1 hb1.size h).cell (p:=⟨s,69+t,none⟩) hslt];exact hc)
 have B1:=Lib.hid hb1;have ST:=Lib.hid (fun w1=>jX w1);have DW:=D.out W (Below.refl _ _);have R_:=Lib.hid hs1;have HW1:=Lib.hid hb1;have FN:=Lib.hid (fun st w2 (h2:dh w2 W.heap.size) (h:w.heap.size≤W.heap.size) (h3:Below W.heap.size W w2)=>mh z t ht (kd:=5) (ad:=ad) (n:=n) (al:=al) (zz:=zz) (fo:=fo) hb1 h2 h h3 st);have FIN:Hid (∀(w2 w3:World) f m a k cap F st,w.heap.size≤f→aQ C K s p q hb (fun b=>S b∨(w.heap.size≤b∧b<w2.heap.size+1)) f m a k cap w P L F st w3→After C K s p q hb S f m w P L F st w3):=Lib.hid fun w2 w3 f m a k cap F st h1 h=>⟨_,_,_,_,h,fun b hb=> .inl hb,fun b hb=>hb.elim .inl fun h=> .inr h.1⟩;have BM:=Lib.hid (fun S1 f1 m1 a1 k1 zf w1 st (h:w.heap.size≤w1.heap.size) (n2:aQ C K s p q hb S1 f1 m1 a1 k1 zf w P L (jS t 5 ad n al zz fo) st w1)=>sS n2 h);clear z ht hc hslt nb hb1 hs1;go_enter Tryz.func6,Tryz.ntmps6
 go_wp2_with fail
 refine (I.out _).mono ?_;rintro e w1 ⟨rfl,rfl⟩;clear hW;have B0:=Lib.hid ((Below.refl w1.heap.size w1).drew);go_wp2;go_region_held3 (fun w'=>w'.cell? ⟨s,69+t,none⟩=some (.pointer (some ⟨hb t,0,none⟩))∧w'.cell? ⟨w.heap.size,0,none⟩=some (.int .i64 5)∧w'.cell? ⟨w.heap.size,1,none⟩=some (.int .u64 (ad:Int))∧w'.cell? ⟨w.heap.size,2,none⟩=some (.int .u64 (n:Int))∧w'.cell? ⟨w.heap.size,3,none⟩=some (.int .u64 (al:Int))∧w'.cell? ⟨w.heap.size,4,none⟩=some (.bool zz)∧w'.cell? ⟨w.heap.size,5,none⟩=some (.bool fo)) (first|go_keep|exact DW|exact d7|exact D.out _ B5.out) (first
  |(go_at_call 18;(with_reducible refine (ID.out _).mono ?_);rintro e w4 ⟨rfl,k4⟩;obtain rfl:=k4.symm;clear k4)
  |(go_at_call 20;(with_reducible refine (ST.out _).mono ?_);rintro e w3 ⟨rfl,h3,hb3⟩;have H3:=Lib.hid h3;have B3:=Lib.hid (ah B0.out B0.out.size hb3);have d7:=D.out _ B3.out;have B5:=Lib.hid (B3.out.alloc B3.out.size (.cells (J7 s hb (jS t 5 ad n al zz fo) nE w1.heap.size (.slice none 0 0)) 78));have NF:=Lib.hid (FN.out nE _ h3 (Nat.le_trans (by omega) (Nat.le_of_eq R_.out.symm)) B3.out);clear h3 hb3))
 go_wp2_with fail
 refine (BM.out _ _ _ _ _ _ _ _ (Nat.le_trans (Nat.le_trans B1.out.size B3.out.size) (by rw [World.size_alloc];exact Nat.le_succ _)) NF.out).mono ?_;rintro e w5 ⟨rfl,S5,a5,k5,cap5,n5,hs5,hs6⟩;have e10:=n5.fr.I4;have f10:=n5.fr.fz 10;have N5:=Lib.hid (n5.put 10 (.string (zh P (jS t 5 ad n al zz fo))) (p9 P (jS t 5 ad n al zz fo)) (zh P (jS t 5 ad n al zz fo)) rfl rfl rfl);have HS5:=Lib.hid (And.intro hs5 hs6);clear n5 hs5 hs6;go_wp2
 go_ret2
 exact ⟨_,_,rfl,Nat.le_trans B1.out.size B3.out.size,S5,a5,k5,cap5,N5.out,fun b hb=>HS5.out.1 b (.inl hb),fun b hb=>(HS5.out.2 b hb).elim (fun h=>h.elim .inl fun h=> .inr h.1) .inr⟩
end
end Go.Proofs.YtpibbcnkgdmcbaaGreatDoor
namespace Go.Proofs.YtpibbcnkgdmcbaaGreatDoor
open Go.RowKit aC aF aG aI au aD aB aA bf
def cB (F:FR):FR:={F with took:=F.took+1}
section
variable {w0 w w' w1 w2:World} {C:fH w0} {K:kW w0 C} {s p q g f m k cap:Nat} {hb:Nat→Nat} {own own':Nat→Prop} {O:Nat→Nat→Prop} {B:Nat→List SB} {R:List SB} {P P':SY} {L L':List Nat} {S S' T:Nat→Prop} {F F':FR} {st st':ByteArray} {a:Option Addr}
theorem KT (h:Fr w S f s m hb F cK a k cap):Calls Tryz.prog 23 #[.pointer (some ⟨f,0,none⟩)] w fun e w'=>e= .returned (.bool false)∧w'=w:=by
 have DN:=Lib.hid (Cv h BU);clear h;go_enter Tryz.func23,Tryz.ntmps23
 go_wp2_with fail
 refine DN.out.mono ?_;rintro e w1 ⟨rfl,rfl⟩;go_wp2;go_ret;exact ⟨rfl,rfl⟩
theorem Ox {g:Nat} {Q:ByteArray→World→Prop} (n:aQ C K s p q hb S f m a k cap w P L F st w') (hst:(st.toList== [100,111,110,101])=false) (ht:F.took≤1000000000000)
 (hg: ∀w1,dh w1 m→(Instr.lookup 73 (.map (some m)) (.string st) false).run Tryz.prog w1= .ok (.func (.func g) #[] #[]) w1)
 (CG: ∀w1,aQ C K s p q hb S f m a k cap w P L (cB F) st w1→w'.heap.size≤w1.heap.size→Calls Tryz.prog g #[.pointer (some ⟨f,0,none⟩)] w1 fun e w2=> ∃st',e= .returned (.string st')∧Q st' w2)
 (hcf: ∀(w:World) (args:Array Value),(callFunc g args).run Tryz.prog w= .ok (.enter g args) w)
 (hQ: ∀st' w2,Q st' w2→(∃y,w2.cell? ⟨f,10,none⟩=some y)∧w2.frozen? ⟨f,10,none⟩=false):
 Calls Tryz.prog 23 #[.pointer (some ⟨f,0,none⟩)] w' fun e w1=>e= .returned (.bool true)∧ ∃st' w2,w1=w2.setCell ⟨f,10,none⟩ (.string st')∧Q st' w2:=by
 have DN:=Lib.hid (Cv n.fr hst);have c11:=n.fr.IZ;have z11:=n.fr.fz 11;obtain ⟨tk,htk⟩: ∃x,F.took=x:=⟨_,rfl⟩;rw [htk] at c11 ht;have wt:IntKind.i64.wrap ((tk:Int)+1)=(tk:Int)+1:=IntWalk.i64_in _ ⟨by omega,by omega⟩;have n1:=n.put 11 (.int .i64 ((tk:Int)+1)) (cB F) st (by unfold cB;rw [htk];rfl) rfl rfl;obtain ⟨W,hW⟩: ∃W,w'.setCell ⟨f,11,none⟩ (.int .i64 ((tk:Int)+1))=W:=⟨_,rfl⟩;rw [hW] at n1;have hsz:W.heap.size=w'.heap.size:=by rw [←hW];simp [World.setCell]
 have e9:=n1.fr.UQ;have e10:=n1.fr.I4;have l1:=hg W n1.fr.map;have l2:=hg W.drew n1.drew.fr.map;have CG1:=Lib.hid (CG W n1 (by omega));have CG2:=Lib.hid (CG W.drew n1.drew (by show _≤W.heap.size;omega));have HQ:=Lib.hid hQ;clear n n1 hst ht hg CG hQ htk hsz;go_enter Tryz.func23,Tryz.ntmps23
 go_wp2_with fail
 refine DN.out.mono ?_;rintro e w1 ⟨rfl,rfl⟩;go_wp2;clear hW z11 c11 DN;go_region_with (first
  |((with_reducible refine CG1.out.mono ?_);rintro e w3 ⟨st',rfl,hq⟩;obtain ⟨⟨y,hy⟩,hz⟩:=HQ.out _ _ hq;have Q3:=Lib.hid hq;clear hq)
  |((with_reducible refine CG2.out.mono ?_);rintro e w3 ⟨st',rfl,hq⟩;obtain ⟨⟨y,hy⟩,hz⟩:=HQ.out _ _ hq;have Q3:=Lib.hid hq;clear hq))
 all_goals go_wp2
 all_goals go_ret
 all_goals exact ⟨rfl,_,_,rfl,Q3.out⟩
def OV (x:Nat) (er:Int) (n:Nat):Value:= .agg #[.int .u64 (x:Int), .int .i64 er, .int .i64 (n:Int)]
theorem Uc {w:World} {g:Nat} {x:Nat} {er:Int} {n:Nat} (h:aV w g 35 #[.int .u64 (x:Int), .int .i64 er, .int .i64 (n:Int)]):(loadVar 35 ⟨g,0,none⟩).run Tryz.prog w= .ok (OV x er n) w:=by
 have hi:(Tryz.prog.info? 35).map (fun j=>j.size)=some 3:=by kernel_rfl
 exact run_loadVar_row w g 35 35 _ (0,0) _ h Tryz.underlying35 rfl hi
theorem zK {fn:Func} {a:Tmp} {t:TypeId} (h:fn.results= #[.cell a t]) (tmps:Array Value) {P:Program} {w:World} {pa:Addr} {va:Value} (ea:tmps.getD a undef= .pointer (some pa)) (ha:(loadVar t pa).run P w= .ok va w):
 (results fn tmps).run P w= .ok va w:=by
 rw [Array.getD_eq_getD_getElem?] at ea;simp [results,h,ea,asAddr,ha]
theorem n_ (h:Fr w S f s m hb F cK a k cap):Calls Tryz.prog 8 #[.pointer (some ⟨f,0,none⟩)] w fun e w'=>e= .returned (OV F.addr F.err F.took)∧Below w.heap.size w w':=by
 have B1:=Lib.hid ((Below.refl w.heap.size w).alloc (Nat.le_refl _) (.cells #[.int .u64 0, .int .i64 0, .int .i64 0] 35));have h1:=h.grew B1.out;have DN:=Lib.hid (Cv h1 BU);have c11:=h1.IZ;have c23:=h1.I5;have c24:=h1.Ki;have hlt:=h.blk.lt;have hne:w.heap.size≠f:=by omega
 have hne2:f≠w.heap.size:=by omega
 obtain ⟨x,hx⟩: ∃x,F.addr=x:=⟨_,rfl⟩;obtain ⟨er,her⟩: ∃x,F.err=x:=⟨_,rfl⟩;obtain ⟨tk,htk⟩: ∃x,F.took=x:=⟨_,rfl⟩;rw [hx] at c23⊢;rw [her] at c24⊢;rw [htk] at c11⊢;have h2:=h.grew ((Below.refl w.heap.size w).alloc (Nat.le_refl _) (.cells #[.int .u64 (x:Int), .int .i64 er, .int .i64 (tk:Int)] 35));have g11:=h2.IZ;have g23:=h2.I5;have g24:=h2.Ki;rw [hx] at g23;rw [her] at g24;rw [htk] at g11;have G:=And.intro g11 (And.intro g23 g24);clear h h1 hx her htk hlt h2 g11 g23 g24;go_enter Tryz.func8,Tryz.ntmps8
 go_wp2_with fail
 refine DN.out.mono ?_;rintro e w1 ⟨rfl,rfl⟩;go_wp2;go_region_held3 (fun w'=>w'.cell? ⟨f,11,none⟩=some (.int .i64 (tk:Int))∧w'.cell? ⟨f,23,none⟩=some (.int .u64 (x:Int))∧w'.cell? ⟨f,24,none⟩=some (.int .i64 er)) (first|go_keep|exact ⟨c11,c23,c24⟩|exact G) (fail)
 go_wp2;exact bodyPost_ret (zK rfl _ rfl (Uc (x:=x) (er:=er) (n:=tk) (aV.new _ _ _))) rfl ⟨rfl,((Below.refl _ w).alloc (Nat.le_refl _) _).drew⟩
end
end Go.Proofs.YtpibbcnkgdmcbaaGreatDoor
namespace Go.Proofs.YtpibbcnkgdmcbaaGreatDoor
open Go.RowKit aC aF aG aI au aD aB aA bf
section
variable {w0 w w' w1 w2:World} {C:fH w0} {K:kW w0 C} {s p q g f m k cap:Nat} {hb:Nat→Nat} {own own':Nat→Prop} {O:Nat→Nat→Prop} {B:Nat→List SB} {R:List SB} {P P':SY} {L L':List Nat} {S S' T:Nat→Prop} {F F':FR} {st st':ByteArray} {a:Option Addr}
theorem t_ (z:OS C K s p q hb P L S w) {x:Nat} (hx:bM x):Calls Tryz.prog 30 #[.pointer (some ⟨s,0,none⟩), .int .u64 (x:Int)] w fun e w'=>e= .returned (yG (fI P.hu x))∧Below w.heap.size w w':=JZ z.cs hx
theorem Br (z:OS C K s p q hb P L S w) {x:Nat} (hx:bM x) (hn: ∀X∈P.all,bJ X x=none):Calls Tryz.prog 31 #[.pointer (some ⟨s,0,none⟩), .int .u64 (x:Int)] w fun e w'=>e= .returned (.tuple #[.pointer none, .pointer none])∧Below w.heap.size w w':=by
 obtain ⟨⟨g,own,O,B,R,z1,z2⟩,h5,h6,h7⟩:=z;exact (yQ z1 h5 hx).mono fun e w' k=>⟨k.2.1 fun b hb1=>hn b.X (by rw [z1.all];exact List.mem_map.2 ⟨b,hb1,rfl⟩),k.2.2⟩
theorem zS (n:aQ C K s p q hb S f m a k cap w P L F st w') (hx:bM F.ad) (hh:fI P.hu F.ad=none) (hn: ∀X∈P.all,bJ X F.ad=none):
 Calls Tryz.prog 49 #[.pointer (some ⟨f,0,none⟩)] w' fun e w1=>e= .returned (.string cK)∧aQ C K s p q hb S f m a k cap w P L (jr F 5) st w1:=by
 have c0:=n.fr.Kh;have c4:=n.fr.Cy;have HA:=fun w1 (n:aQ C K s p q hb S f m a k cap w P L F st w1)=>t_ n.os hx;rw [hh] at HA;unfold yG at HA;simp only at HA;have HA:=Lib.hid HA;have FI:=Lib.hid (fun w1 (n:aQ C K s p q hb S f m a k cap w P L F st w1)=>Br n.os hx hn);have FA:=Lib.hid (fun w1 (n:aQ C K s p q hb S f m a k cap w P L F st w1)=>uJ n.fr 5);have D:=Lib.hid (fun w1 (n:aQ C K s p q hb S f m a k cap w P L F st w1)=>(And.intro n.fr.Kh n.fr.Cy));have N:=Lib.hid n;obtain ⟨ad,had⟩: ∃x,F.ad=x:=⟨_,rfl⟩;rw [had] at c4 HA FI D;clear n hx hh hn had;go_enter Tryz.func49,Tryz.ntmps49
 go_wp2;go_region_held3 (fun w'=>w'.cell? ⟨f,0,none⟩=some (.pointer (some ⟨s,0,none⟩))∧w'.cell? ⟨f,4,none⟩=some (.int .u64 (ad:Int))) (first|go_keep|exact ⟨c0,c4⟩|exact d2) (first
  |(go_at_call 30;(refine (HA.out _ N.out.drew).mono ?_);rintro e w2 ⟨rfl,hb2⟩;have N2:=Lib.hid (N.out.drew.grew hb2);have d2:=D.out _ N2.out;clear hb2))
 obtain ⟨e0,e4⟩:=d2;go_wp2;go_region_held3 (fun w'=>w'.cell? ⟨f,0,none⟩=some (.pointer (some ⟨s,0,none⟩))∧w'.cell? ⟨f,4,none⟩=some (.int .u64 (ad:Int))) (first|go_keep|exact ⟨e0,e4⟩|exact d3) (first
  |(go_at_call 31;(refine (FI.out _ N2.out.drew).mono ?_);rintro e w3 ⟨rfl,hb3⟩;have N3:=Lib.hid (N2.out.drew.grew hb3);have d3:=D.out _ N3.out;clear hb3))
 go_wp2_with fail
 refine (FA.out _ N3.out).mono ?_;rintro e w4 ⟨rfl,h4,u4⟩;have N4:=Lib.hid (N3.out.Ck h4 u4);clear h4 u4;go_wp2;go_ret;exact ⟨rfl,N4.out⟩
theorem Cm (n:aQ C K s p q hb S f m a k cap w P L F st w') (hx:bM F.ad) (hu:(tK P F.ad).2≠0):
 Calls Tryz.prog 52 #[.pointer (some ⟨f,0,none⟩)] w' fun e w1=>e= .returned (.string cK)∧aQ C K s p q hb S f m a k cap w P L {F with err:=(tK P F.ad).2} st w1:=by
 have c0:=n.fr.Kh;have c4:=n.fr.Cy;have US:=Lib.hid (fun w1 (n:aQ C K s p q hb S f m a k cap w P L F st w1)=>pI n.os hx);obtain ⟨u1,hu1⟩: ∃u1,(tK P F.ad).1=u1:=⟨_,rfl⟩;obtain ⟨u2,hu2⟩: ∃u2,(tK P F.ad).2=u2:=⟨_,rfl⟩;rw [hu1,hu2] at US;rw [hu2] at hu⊢;have t1:(u2 !=0)=true:=by rw [bne_iff_ne];exact hu
 have FA:=Lib.hid (fun w1 (n:aQ C K s p q hb S f m a k cap w P L F st w1)=>sN n.fr u2);have D:=Lib.hid (fun w1 (n:aQ C K s p q hb S f m a k cap w P L F st w1)=>(And.intro n.fr.Kh n.fr.Cy));have N:=Lib.hid n;obtain ⟨ad,had⟩: ∃x,F.ad=x:=⟨_,rfl⟩;have HA:=Lib.hid had;have c4':w'.cell? ⟨f,4,none⟩=some (.int .u64 (ad:Int)):=by rw [←had];exact c4
 have US':Hid (∀w1,aQ C K s p q hb S f m a k cap w P L F st w1→Calls Tryz.prog 12 #[.pointer (some ⟨s,0,none⟩), .int .u64 (ad:Int)] w1 fun e w'=>e= .returned (.tuple #[.int .u64 (u1:Int), .int .i64 u2])∧Below w1.heap.size w1 w'):=by rw [←had];exact US
 have D':Hid (∀w1,aQ C K s p q hb S f m a k cap w P L F st w1→w1.cell? ⟨f,0,none⟩=some (.pointer (some ⟨s,0,none⟩))∧w1.cell? ⟨f,4,none⟩=some (.int .u64 (ad:Int))):=by rw [←had];exact D
 clear n hx hu hu1 hu2 had c4 US D;go_enter Tryz.func52,Tryz.ntmps52
 go_wp2;go_region_held3 (fun w'=>w'.cell? ⟨f,0,none⟩=some (.pointer (some ⟨s,0,none⟩))∧w'.cell? ⟨f,4,none⟩=some (.int .u64 (ad:Int))) (first|go_keep|exact ⟨c0,c4'⟩|exact d2) (first
  |(go_at_call 12;(refine (US'.out _ N.out.drew).mono ?_);rintro e w2 ⟨rfl,hb2⟩;have N2:=Lib.hid (N.out.drew.grew hb2);have d2:=D'.out _ N2.out;clear hb2))
 go_wp2_with fail
 refine (FA.out _ N2.out).mono ?_;rintro e w4 ⟨rfl,h4,u4⟩;have N4:=Lib.hid (N2.out.Ck h4 u4);clear h4 u4;go_wp2;go_ret;exact ⟨rfl,N4.out⟩
end
def Ends (f:Nat) (Q:World→Prop):Nat→World→Prop
 |0,w=>Calls Tryz.prog 23 #[.pointer (some ⟨f,0,none⟩)] w fun e w'=>e= .returned (.bool false)∧Q w'
 |n+1,w=>(Calls Tryz.prog 23 #[.pointer (some ⟨f,0,none⟩)] w fun e w'=>e= .returned (.bool false)∧Q w')∨Calls Tryz.prog 23 #[.pointer (some ⟨f,0,none⟩)] w fun e w'=>e= .returned (.bool true)∧Ends f Q n w'
def acv (f:Nat) (Q:World→Prop) (mo:Nat) (i:Value) (w:World):Prop:= ∃j n:Nat,i= .int .i64 (j:Int)∧j+n<mo∧Ends f Q n w
theorem qO {f:Nat} {Q:World→Prop} {n mo:Nat} {w:World} (h:Ends f Q n w) (hm:n<mo) (hmo:mo≤1000000000):
 Calls Tryz.prog 7 #[.pointer (some ⟨f,0,none⟩), .int .i64 (mo:Int)] w fun e w'=>e= .returned (.bool true)∧Q w':=by
 have H:=Lib.hid h;clear h;go_enter Tryz.func7,Tryz.ntmps7
 go_wp2;go_loopw [6] (fun i wr=>acv f Q mo i wr) (fun i _=>mo-(intOf i).toNat)
 case atStart=>exact ⟨0,n,rfl,by omega,H.out⟩
 case round=>
  clear H;obtain ⟨j,n,rfl,hj,he⟩:=hrel;have t1:decide ((j:Int)<(mo:Int))=true:=decide_eq_true (by omega);have t1':decide (j<mo)=true:=decide_eq_true (by omega);cases n with
  |zero=>
   have E:=Lib.hid (show Calls Tryz.prog 23 #[.pointer (some ⟨f,0,none⟩)] wr fun e w'=>e= .returned (.bool false)∧Q w' from he);clear he;go_wp2_with fail
   refine E.out.mono ?_;rintro e w1 ⟨rfl,hq⟩;have HQ:=Lib.hid hq;clear hq;go_wp2;go_ret;exact ⟨rfl,HQ.out⟩
  |succ n=>
   rcases he with he|he
   · have E:=Lib.hid he
     clear he;go_wp2_with fail
     refine E.out.mono ?_;rintro e w1 ⟨rfl,hq⟩;have HQ:=Lib.hid hq;clear hq;go_wp2;go_ret;exact ⟨rfl,HQ.out⟩
   · have E:=Lib.hid he
     clear he;go_wp2_with fail
     refine E.out.mono ?_;rintro e w1 ⟨rfl,hq⟩;have HQ:=Lib.hid hq;clear hq;go_wp2;go_roundw
     case rel=>exact ⟨j+1,n,by go_num,by omega,HQ.out⟩
     case measure=>simp [intOf];omega
end Go.Proofs.YtpibbcnkgdmcbaaGreatDoor
