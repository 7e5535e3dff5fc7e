/- Arenas12: texts of layers below, joined (Arena1 Arena2 Arena3 Arena4 Arena5). -/
import Derived.Test.YtpibbcnkgdmcbaaGreatDoorVec
import Derived.Test.YtpibbcnkgdmcbaaGreatDoorArenaMath
import Derived.Test.YtpibbcnkgdmcbaaGreatDoorMarks12
import Derived.Below
import Derived.Deep.RegionHeld3
import Derived.RegionTactic
import Derived.Deep.RegionWith
set_option linter.unusedVariables false
set_option linter.unusedSimpArgs false
set_option maxRecDepth 100000
set_option maxHeartbeats 400000
namespace Go.Proofs.YtpibbcnkgdmcbaaGreatDoor
open Go.RowKit
open Mk
theorem Fu {w w':World} {B:Nat} (h:aH (fun _=>False) w w') (hB:B≤w.heap.size):Below B w w':=h.below (fun k x=>x.elim) hB
theorem aU.drewN {w:World} {p o g:Nat} {L:List Bool} (h:aU w p o g L) (n:Nat):aU (w.drewN n) p o g L:=⟨h.head,h.row,h.ne,h.pos,h.big⟩
theorem aU.drew {w:World} {p o g:Nat} {L:List Bool} (h:aU w p o g L):aU w.drew p o g L:=⟨h.head,h.row,h.ne,h.pos,h.big⟩
theorem Da (n:Nat) (h:n≤1000000):(Lit.int .i64 (n:Int)).wf=true:=gy.wf ⟨by omega,by omega⟩
theorem tT {w w':World} (h:Below w.heap.size w w'):aH (fun _=>False) w w':=⟨h.os,h.tape,h.output,h.size,fun k hk _=>h.block k hk⟩
theorem lH (w:World) (q i:Nat) (v:Value):aH (fun k=>k=q) w (w.setCell ⟨q,i,none⟩ v):=(aH.refl (fun k=>k=q) w).setCell (p:=⟨q,i,none⟩) (.inl rfl) v
def n64 (n:Nat):Value:= .int .i64 (n:Int)
theorem row_cell {w:World} {e:TypeId} {g:Nat} {R:List Nat} (h:aV w g e (R.map n64).toArray) (j:Nat) (hj:j<R.length):w.cell? ⟨g,j,none⟩=some (.int .i64 ((R.getD j 0:Nat):Int)):=by
 rw [aV.cell h,List.getElem?_toArray,List.getElem?_map];simp [List.getD_eq_getElem?_getD,hj,n64]
theorem row_putA {w:World} {e:TypeId} {g:Nat} {R:List Nat} (h:aV w g e (R.map n64).toArray) (p x:Nat) (X:Int) (hX:X=(x:Int)):aV (w.setCell ⟨g,p,none⟩ (.int .i64 X)) g e ((R.set p x).map n64).toArray:=by
 subst hX;have:=aV.put h p (.int .i64 (x:Int));rw [List.map_set];rw [List.setIfInBounds_toArray] at this;exact this
theorem LP (n:Nat):madeCells (Value.cells (.int .i64 0)) n=((List.replicate n 0).map n64).toArray:=by
 apply Array.ext
 · simp [madeCells]
 · intro i h1 h2
   simp [madeCells,Value.cells,Nat.mod_one,n64]
section
variable {P:Program}
theorem tQ {w:World} {ops:Array Oper} {rest:List Oper} {o:Oper} {a:Act} {Q:Exit→Act→World→Prop}
 (hgd:o.guard=none) (l c:Operand) (t:TypeId) (ho:o.op= .makeSlice t l c)
 (e:TypeId) (i:TypeInfo) (ht:P.underlying t=some (.slice e)) (hi:P.info? e=some i) (hz:i.zero=some (.int .i64 0)) (hsize:i.size=1) (hby:i.bytes=8)
 (k k':IntKind) (C:Int) (n:Nat) (hl:a.eval l= .int k C) (hc:a.eval c= .int k' C) (hC:C=(n:Int)) (hn:n≤1000000000000)
 (hK: ∀w',aV w' w.heap.size e ((List.replicate n 0).map n64).toArray→aH (fun _=>False) w w'→w'.heap.size=w.heap.size+1→wpList P ops Q rest (a.put o.dst (.slice (some ⟨w.heap.size,0,none⟩) n n)) w'):
 wpList P ops Q (o::rest) a w:=by
 refine wpList_plain hgd fun K hK'=> ?_;subst hC;have hrun:=run_make (P:=P) w t e i (.int .i64 0) ht hi hz k k' (n:Int) (n:Int) (by omega) (by omega) (by rw [hby];omega) (by omega);simp only [Int.toNat_natCast,hsize,Nat.mul_one,LP] at hrun;unfold Oper.wp;simp only [execOp,ho,hl,hc,Sem.run_bind,hrun,Result.andThen_ok,Sem.run_pure];exact hK' _ _ (hK _ (heap_alloc_new w _) ((aH.refl _ _).alloc _) (by simp))
end
structure Sep (q p g rb:Nat) (tv:Value):Prop where
 qp:q≠p
 qg:q≠g
 qr:q≠rb
 pr:p≠rb
 gr:g≠rb
 t: ∀k,In tv k→k≠q∧k≠p∧k≠g∧k≠rb
def Mine (q p g rb:Nat) (tv:Value) (k:Nat):Prop:=k=q∨k=p∨k=g∨k=rb∨In tv k
structure Raw (w:World) (q p g rb:Nat) (tv:Value) (S lim:Nat) (T:List Bool) (r:Nat) (R:List Nat) (L:List Bool):Prop where
 head:aV w q 91 #[.pointer (some ⟨p,0,none⟩), .slice (some ⟨rb,0,none⟩) S S, .int .i64 (lim:Int),tv, .int .i64 (r:Int)]
 marks:aU w p 0 g L
 regs:aV w rb 3 (R.map n64).toArray
 pX:R.length=S
 told:Vec Elem.bools w tv T
 sep:Sep q p g rb tv
section
variable {w w':World} {q p g rb:Nat} {tv:Value} {S lim:Nat} {T:List Bool} {r:Nat} {R:List Nat} {L:List Bool}
theorem Raw.c0 (h:Raw w q p g rb tv S lim T r R L):w.cell? ⟨q,0,none⟩=some (.pointer (some ⟨p,0,none⟩)):=h.head.cell 0
theorem Raw.c1 (h:Raw w q p g rb tv S lim T r R L):w.cell? ⟨q,1,none⟩=some (.slice (some ⟨rb,0,none⟩) S S):=h.head.cell 1
theorem Raw.c2 (h:Raw w q p g rb tv S lim T r R L):w.cell? ⟨q,2,none⟩=some (.int .i64 (lim:Int)):=h.head.cell 2
theorem Raw.c3 (h:Raw w q p g rb tv S lim T r R L):w.cell? ⟨q,3,none⟩=some tv:=h.head.cell 3
theorem Raw.c4 (h:Raw w q p g rb tv S lim T r R L):w.cell? ⟨q,4,none⟩=some (.int .i64 (r:Int)):=h.head.cell 4
theorem Raw.lt (h:Raw w q p g rb tv S lim T r R L) {k:Nat} (hk:Mine q p g rb tv k):k<w.heap.size:=by
 rcases hk with rfl|rfl|rfl|rfl|hk
 · exact h.head.lt
 · exact h.marks.lt
 · exact h.marks.row.lt
 · exact h.regs.lt
 · exact h.told.lt hk
theorem Raw.upd {X:Nat→Prop} (h:Raw w q p g rb tv S lim T r R L) (u:aH X w w') (hX: ∀k,Mine q p g rb tv k→ ¬X k):Raw w' q p g rb tv S lim T r R L:=
 ⟨h.head.upd u (hX q (.inl rfl)),h.marks.upd u (hX p (.inr (.inl rfl))) (hX g (.inr (.inr (.inl rfl)))),h.regs.upd u (hX rb (.inr (.inr (.inr (.inl rfl))))),h.pX,h.told.upd u (fun k hk=>hX k (.inr (.inr (.inr (.inr hk))))),h.sep⟩
theorem Raw.grew (h:Raw w q p g rb tv S lim T r R L) (hb:Below w.heap.size w w'):Raw w' q p g rb tv S lim T r R L:=h.upd (tT hb) (fun _ _=>id)
theorem Raw.alloc (h:Raw w q p g rb tv S lim T r R L) (o:Obj):Raw (w.alloc o) q p g rb tv S lim T r R L:=h.upd ((aH.refl (fun _=>False) w).alloc o) (fun _ _=>id)
theorem Raw.drew (h:Raw w q p g rb tv S lim T r R L):Raw w.drew q p g rb tv S lim T r R L:=h.upd ((aH.refl (fun _=>False) w).drew) (fun _ _=>id)
theorem Raw.count (h:Raw w q p g rb tv S lim T r R L) (n:Nat) (X:Int) (hX:X=(n:Int)):Raw (w.setCell ⟨q,4,none⟩ (.int .i64 X)) q p g rb tv S lim T n R L:=by
 subst hX;have u:aH (fun k=>k=q) w (w.setCell ⟨q,4,none⟩ (.int .i64 (n:Int))):=lH w _ _ _;exact ⟨h.head.put 4 _,h.marks.upd u (Ne.symm h.sep.qp) (Ne.symm h.sep.qg),h.regs.upd u (Ne.symm h.sep.qr),h.pX,h.told.upd u (fun k hk=>(h.sep.t k hk).1),h.sep⟩
theorem Raw.tell (h:Raw w q p g rb tv S lim T r R L) {tv':Value} {T':List Bool} (hv:Vec Elem.bools w tv' T') (hs: ∀k,In tv' k→k≠q∧k≠p∧k≠g∧k≠rb):Raw (w.setCell ⟨q,3,none⟩ tv') q p g rb tv' S lim T' r R L:=by
 have u:aH (fun k=>k=q) w (w.setCell ⟨q,3,none⟩ tv'):=lH w _ _ _;exact ⟨h.head.put 3 _,h.marks.upd u (Ne.symm h.sep.qp) (Ne.symm h.sep.qg),h.regs.upd u (Ne.symm h.sep.qr),h.pX,hv.upd u (fun k hk=>(hs k hk).1),⟨h.sep.qp,h.sep.qg,h.sep.qr,h.sep.pr,h.sep.gr,hs⟩⟩
theorem Raw.region (h:Raw w q p g rb tv S lim T r R L) (a n:Nat) (X:Int) (hX:X=(n:Int)):Raw (w.setCell ⟨rb,a,none⟩ (.int .i64 X)) q p g rb tv S lim T r (R.set a n) L:=by
 have u:aH (fun k=>k=rb) w (w.setCell ⟨rb,a,none⟩ (.int .i64 X)):=lH w _ _ _;exact ⟨h.head.upd u h.sep.qr,h.marks.upd u h.sep.pr h.sep.gr,row_putA h.regs a n X hX,by rw [List.length_set];exact h.pX,h.told.upd u (fun k hk=>(h.sep.t k hk).2.2.2),h.sep⟩
theorem Raw.marked (h:Raw w q p g rb tv S lim T r R L) {M:List Bool} (hm:aU w' p 0 g M) (u:aH (fun k=>k=g) w w'):Raw w' q p g rb tv S lim T r R M:=
 ⟨h.head.upd u h.sep.qg,hm,h.regs.upd u (Ne.symm h.sep.gr),h.pX,h.told.upd u (fun k hk=>(h.sep.t k hk).2.2.1),h.sep⟩
theorem Vec.shape {α:Type} {E:Elem α} {w:World} {v:Value} {l:List α} (h:Vec E w v l): ∃a cap,v= .slice a l.length cap∧l.length≤cap∧cap≤9223372036854775807:=by
 rcases h with ⟨rfl,rfl⟩|⟨g,off,cap,rfl,_,h1,h2,_⟩
 · exact ⟨none,0,rfl,by simp,by omega⟩
 · exact ⟨_,cap,rfl,h1,by simp only [maxLen] at h2;omega⟩
theorem Vec.is {α:Type} {E:Elem α} {w:World} {v:Value} {l:List α} (h:Vec E w v l): ∃a n cap,v= .slice a n cap:=by
 obtain ⟨a,cap,rfl,_,_⟩:=h.shape;exact ⟨a,_,cap,rfl⟩
end
theorem Y9:(Tryz.prog.info? 3).map (fun i=>(i.zero,i.size,i.bytes))=some (some (.int .i64 0),1,8):=by kernel_rfl
def Ry (w:World) (S lim:Nat) (e:Ending) (w':World):Prop:=
 ∃q p g rb,e= .returned (.tuple #[.pointer (some ⟨q,0,none⟩), .int .i64 0])∧Raw w' q p g rb (.slice none 0 0) S lim [] 0 (List.replicate S 0) (aj.rep S false)∧(∀k,Mine q p g rb (.slice none 0 0) k→w.heap.size≤k)∧aH (fun _=>False) w w'
theorem Nh (S lim:Nat) (h1:1≤S) (h2:S≤64) (h3:lim≤S) (w:World):Calls Tryz.prog 15 #[.int .i64 (S:Int), .int .i64 (lim:Int)] w (Ry w S lim):=by
 obtain ⟨i0,hi,hz0,hz1,hz2⟩:=info_parts Y9;have t1:decide ((64:Int)<(S:Int))=false:=decide_eq_false (by omega);have t2:decide ((lim:Int)<0)=false:=decide_eq_false (by omega);have t3:decide (S<lim)=false:=decide_eq_false (by omega);have H1:=Lib.hid h1;have H2:=Lib.hid h2;have H3:=Lib.hid h3;go_enter Tryz.func15,Tryz.ntmps15
 go_wp2_with fail
 refine (BR S h1 (by omega) _).mono ?_;rintro e w1 ⟨p,g,rfl,hm,hp,hg,hu⟩;have M1:=Lib.hid hm;have U1:=Lib.hid hu;have HP:=Lib.hid hp;have HG:=Lib.hid hg;clear hm hu hp hg h1 h2 h3;go_wp2_with (at_make;refine tQ rfl _ _ 86 rfl 3 i0 Tryz.underlying86 hi hz0 hz1 hz2 _ _ _ S rfl rfl rfl ?_ ?_;(have:=H2.out;omega);intro w2 hr hu hs)
 have S2:=Lib.hid hs;have R2:=Lib.hid hr;have U2:=Lib.hid hu;clear hs hr hu t1 t2 t3;go_wp2
 go_ret2
 have e2:=S2.out;have l1:=M1.out.lt;have l2:=M1.out.row.lt;have hn:=M1.out.ne;have u1:=U1.out.size;have p1:=HP.out;have g1:=HG.out;refine ⟨w2.heap.size,p,g,w1.heap.size,by rw [e2];rfl,⟨?_,(M1.out.upd U2.out id id).alloc _,R2.out.alloc _,by simp,Vec.nil _,⟨by omega,by omega,by omega,by omega,by omega,by intro k hk;cases hk⟩⟩, ?_,(U1.out.trans U2.out).alloc _⟩
 · exact aV.new w2 _ _
 · rintro k (rfl|rfl|rfl|rfl|hk)
   · omega
   · omega
   · omega
   · omega
   · cases hk
section
variable {w:World} {q p g rb:Nat} {tv:Value} {S lim:Nat} {T:List Bool} {r:Nat} {R:List Nat} {L:List Bool}
theorem QA (h:Raw w q p g rb tv S lim T r R L) (hr:r≤1000000000000):Calls Tryz.prog 37 #[.pointer (some ⟨q,0,none⟩)] w fun e w'=>
 e= .returned (.tuple #[.int .i64 0, .int .i64 4])∧Raw w' q p g rb tv S lim T (r+1) R L∧aH (fun k=>k=q) w w':=by
 have c4:=h.c4;have f4:w.frozen? ⟨q,4,none⟩=false:=h.head.frozen 4;have H:=Lib.hid h;clear h;go_enter Tryz.func37,Tryz.ntmps37
 go_wp2
 go_ret2
 exact ⟨rfl,H.out.count (r+1) _ (by omega),lH w _ _ _⟩
theorem Ww (w:World):(sizeOf (Tryz.prog.elem 89)).run Tryz.prog w= .ok Elem.bools.size w:=by kernel_rfl
theorem PN (h:Raw w q p g rb tv S lim T r R L) (hT:T.length≤1000):Calls Tryz.prog 36 #[.pointer (some ⟨q,0,none⟩)] w fun e w'=>
 e= .returned (.bool (T.headD false))∧(∃tv',Raw w' q p g rb tv' S lim (T.drop 1) r R L∧ ∀k,In tv' k→In tv k)∧aH (fun k=>k=q) w w':=by
 have c3:=h.c3;have f3:w.frozen? ⟨q,3,none⟩=false:=h.head.frozen 3;obtain ⟨a,cap,rfl,h1,h2⟩:=h.told.shape;have H:=Lib.hid h;clear h;cases T with
 |nil=>
  simp only [List.length_nil] at c3 h1 hT;go_enter Tryz.func36,Tryz.ntmps36
  go_wp2;go_ret;exact ⟨rfl,⟨_,H.out,fun _ h=>h⟩,aH.refl _ _⟩
 |cons b T=>
  obtain ⟨tb,off,rfl,hc⟩:=H.out.told.seq.elem (i:=0) (x:=b) rfl;have hcell:=hc 0 (.bool b) rfl;simp only [Nat.zero_mul,Nat.add_zero] at hcell;obtain ⟨sv,hsv,hin,_,W_⟩:=QT (E:=Elem.bools) (P:=Tryz.prog) 89 Tryz.underlying89 Ww (some ⟨tb,off,none⟩) (b::T).length cap 1 (by simp) h1;rw [show ((1:Nat):Int)=(1:Int) from rfl] at hsv;obtain ⟨a',n',cap',rfl⟩:=(W_ _ _ H.out.told).is;have HI:=Lib.hid hin;have HV:=Lib.hid W_;obtain ⟨n,hn⟩: ∃n,(b::T).length=n:=⟨_,rfl⟩;have hn1:1≤n:=by rw [←hn];simp
  have tn:((n:Int)==0)=false:=by rw [beq_eq_false_iff_ne];omega
  rw [hn] at c3 h1 hsv hT;have HN:=Lib.hid hn;clear hc hin W_ hn;go_enter Tryz.func36,Tryz.ntmps36
  go_wp2;go_ret;refine ⟨rfl,⟨_,H.out.tell (HV.out _ _ H.out.told) (fun k hk=>H.out.sep.t k (HI.out k hk)),HI.out⟩,lH w _ _ _⟩
end
end Go.Proofs.YtpibbcnkgdmcbaaGreatDoor
namespace Go.Proofs.YtpibbcnkgdmcbaaGreatDoor
open Go.RowKit
open Mk
section
variable {w:World} {q p g rb:Nat} {tv:Value} {S lim:Nat} {T:List Bool} {r:Nat} {R:List Nat} {L:List Bool}
def Held (w:World) (q p g rb:Nat) (tv:Value) (S lim:Nat) (T:List Bool) (r:Nat) (R:List Nat) (L:List Bool) (w':World):Prop:=Raw w' q p g rb tv S lim T r R L∧Below w.heap.size w w'
theorem Held.drew {w':World} (s:Held w q p g rb tv S lim T r R L w'):Held w q p g rb tv S lim T r R L w'.drew:=⟨s.1.drew,s.2.drew⟩
theorem LX {w':World} (s:Held w q p g rb tv S lim T r R L w'):Calls Tryz.prog 29 #[.pointer (some ⟨p,0,none⟩)] w' fun e w2=>e= .returned (.int .i64 (aj.left L:Nat))∧Held w q p g rb tv S lim T r R L w2:=
 (Es s.1.marks).mono fun e w2 k=>⟨k.1,s.1.grew k.2,s.2.trans (k.2.mono s.2.size)⟩
theorem Aw (h:Raw w q p g rb tv S lim T r R L) (n:Nat) (hn:aj.left L+n=S) (hS:S≤64):Calls Tryz.prog 11 #[.pointer (some ⟨q,0,none⟩)] w fun e w'=>e= .returned (.int .i64 (n:Int))∧Below w.heap.size w w':=by
 obtain ⟨k,hk⟩: ∃k,aj.left L=k:=⟨_,rfl⟩;have HL:Hid (∀w',Held w q p g rb tv S lim T r R L w'→Calls Tryz.prog 29 #[.pointer (some ⟨p,0,none⟩)] w' fun e w2=>e= .returned (.int .i64 (k:Int))∧Held w q p g rb tv S lim T r R L w2):=
  Lib.hid fun w' s=>(LX s).mono fun e w2 x=>⟨by rw [x.1,hk],x.2⟩
 rw [hk] at hn;have d0:=h.c0;have d1:=h.c1;have ST:Hid (Held w q p g rb tv S lim T r R L w):=Lib.hid ⟨h,Below.refl _ _⟩;have hkS:k≤64:=by omega
 have HN:=Lib.hid hn;clear h hk hn;go_enter Tryz.func11,Tryz.ntmps11
 go_wp2_with fail
 go_region_held3 (fun w'=>w'.cell? ⟨q,0,none⟩=some (.pointer (some ⟨p,0,none⟩))∧w'.cell? ⟨q,1,none⟩=some (.slice (some ⟨rb,0,none⟩) S S)) (first|go_keep|exact ⟨d0,d1⟩)
  (first
   |(go_at_call 29;(first|(with_reducible refine (HL.out _ ST.out.drew).mono ?_)|(with_reducible refine (HL.out _ ST.out).mono ?_));rintro e w5 ⟨rfl,hst⟩;have d0:=hst.1.c0;have d1:=hst.1.c1;have ST:=Lib.hid hst;clear hst))
 go_wp2;go_ret;refine ⟨?_,ST.out.2⟩;have:=HN.out;rw [show (S:Int)-(k:Int)=(n:Int) by omega];show Ending.returned (.int .i64 (IntKind.i64.wrap (n:Int)))=_;rw [IntWalk.i64_in _ ⟨by omega,by omega⟩]
end
end Go.Proofs.YtpibbcnkgdmcbaaGreatDoor
namespace Go.Proofs.YtpibbcnkgdmcbaaGreatDoor
open Go.RowKit
open Mk
def Now (w:World) (q p g rb:Nat) (tv:Value) (S lim:Nat) (T:List Bool) (r:Nat) (R:List Nat) (L:List Bool) (w':World):Prop:=
 ∃tv',Raw w' q p g rb tv' S lim T r R L∧(∀k,In tv' k→In tv k∨w.heap.size≤k)∧aH (Mine q p g rb tv) w w'
section
variable {w w':World} {q p g rb:Nat} {tv:Value} {S lim:Nat} {T:List Bool} {r:Nat} {R:List Nat} {L:List Bool}
theorem Now.start (h:Raw w q p g rb tv S lim T r R L):Now w q p g rb tv S lim T r R L w:=⟨tv,h,fun k h=> .inl h,aH.refl _ _⟩
theorem Now.drew (s:Now w q p g rb tv S lim T r R L w'):Now w q p g rb tv S lim T r R L w'.drew:=by
 obtain ⟨tv',h,hi,u⟩:=s;exact ⟨tv',h.drew,hi,u.drew⟩
theorem Now.c0 (s:Now w q p g rb tv S lim T r R L w'):w'.cell? ⟨q,0,none⟩=some (.pointer (some ⟨p,0,none⟩)):=by obtain ⟨_,h,_⟩:=s;exact h.c0
theorem Now.c1 (s:Now w q p g rb tv S lim T r R L w'):w'.cell? ⟨q,1,none⟩=some (.slice (some ⟨rb,0,none⟩) S S):=by obtain ⟨_,h,_⟩:=s;exact h.c1
theorem Now.c2 (s:Now w q p g rb tv S lim T r R L w'):w'.cell? ⟨q,2,none⟩=some (.int .i64 (lim:Int)):=by obtain ⟨_,h,_⟩:=s;exact h.c2
theorem Now.cr (s:Now w q p g rb tv S lim T r R L w') (j:Nat) (hj:j<S):w'.cell? ⟨rb,j,none⟩=some (.int .i64 ((R.getD j 0:Nat):Int)):=by obtain ⟨_,h,_⟩:=s;exact row_cell h.regs j (by rw [h.pX];exact hj)
theorem Now.fr (s:Now w q p g rb tv S lim T r R L w') (j:Nat):w'.frozen? ⟨rb,j,none⟩=false:=by obtain ⟨_,h,_⟩:=s;exact h.regs.frozen j
theorem Now.len (s:Now w q p g rb tv S lim T r R L w'):R.length=S:=by obtain ⟨_,h,_⟩:=s;exact h.pX
theorem Now.qr (s:Now w q p g rb tv S lim T r R L w'):q≠rb:=by obtain ⟨_,h,_⟩:=s;exact h.sep.qr
theorem Now.store (s:Now w q p g rb tv S lim T r R L w') (a n:Nat) (X:Int) (hX:X=(n:Int)):Now w q p g rb tv S lim T r (R.set a n) L (w'.setCell ⟨rb,a,none⟩ (.int .i64 X)):=by
 obtain ⟨tv',h,hi,u⟩:=s;exact ⟨tv',h.region a n X hX,hi,u.trans ((lH w' rb a _).mono (fun k hk=> .inr (.inr (.inr (.inl hk)))))⟩
theorem Now.next (s:Now w q p g rb tv S lim T r R L w') (hT:T.length≤1000):Calls Tryz.prog 36 #[.pointer (some ⟨q,0,none⟩)] w' fun e w2=>e= .returned (.bool (T.headD false))∧Now w q p g rb tv S lim (T.drop 1) r R L w2:=by
 obtain ⟨tv',h,hi,u⟩:=s;refine (PN h hT).mono ?_;rintro e w2 ⟨rfl,⟨tv2,h2,hi2⟩,u2⟩;exact ⟨rfl,tv2,h2,fun k hk=>hi k (hi2 k hk),u.trans (u2.mono (fun k hk=> .inl hk))⟩
theorem Now.full (s:Now w q p g rb tv S lim T r R L w') (hr:r≤1000000000000):Calls Tryz.prog 37 #[.pointer (some ⟨q,0,none⟩)] w' fun e w2=>e= .returned (.tuple #[.int .i64 0, .int .i64 4])∧Now w q p g rb tv S lim T (r+1) R L w2:=by
 obtain ⟨tv',h,hi,u⟩:=s;refine (QA h hr).mono ?_;rintro e w2 ⟨rfl,h2,u2⟩;exact ⟨rfl,tv',h2,hi,u.trans (u2.mono (fun k hk=> .inl hk))⟩
theorem Now.given (s:Now w q p g rb tv S lim T r R L w') (n:Nat) (hn:aj.left L+n=S) (hS:S≤64):Calls Tryz.prog 11 #[.pointer (some ⟨q,0,none⟩)] w' fun e w2=>e= .returned (.int .i64 (n:Int))∧Now w q p g rb tv S lim T r R L w2:=by
 obtain ⟨tv',h,hi,u⟩:=s;refine (Aw h n hn hS).mono ?_;rintro e w2 ⟨rfl,hb⟩;exact ⟨rfl,tv',h.grew hb,hi,u.trans ((tT hb).mono (fun k hk=>hk.elim))⟩
theorem Now.take (s:Now w q p g rb tv S lim T r R L w') (k:Int):Calls Tryz.prog 38 #[.pointer (some ⟨p,0,none⟩), .int .i64 k] w' fun e w2=>e= .returned (.tuple #[.int .i64 (takeA L k), .int .i64 (jQ L k)])∧Now w q p g rb tv S lim T r R (rF L k) w2:=by
 obtain ⟨tv',h,hi,u⟩:=s;refine (rE h.marks k).mono ?_;rintro e w2 ⟨rfl,hm,u2⟩;exact ⟨rfl,tv',h.marked hm u2,hi,u.trans (u2.mono (fun k hk=> .inr (.inr (.inl hk))))⟩
theorem Now.free (s:Now w q p g rb tv S lim T r R L w') {a k:Nat} (ha:a≤1000) (hk:1≤k) (hk2:k≤1000) (hf:aj.bI L a k true):Calls Tryz.prog 155 #[.pointer (some ⟨p,0,none⟩), .int .i64 (a:Int), .int .i64 (k:Int)] w' fun e w2=>e= .returned (.int .i64 0)∧Now w q p g rb tv S lim T r R (aj.setAt L a k false) w2:=by
 obtain ⟨tv',h,hi,u⟩:=s;have hm:=ER h.marks (a:Int) (k:Int) (Da a (by omega)) (Da k (by omega));rw [pG hk hf,pF hk hf] at hm;refine hm.mono ?_;rintro e w2 ⟨rfl,hm,u2⟩;exact ⟨rfl,tv',h.marked hm u2,hi,u.trans (u2.mono (fun k hk=> .inr (.inr (.inl hk))))⟩
theorem Gv (h:Raw w q p g rb tv S lim T r R L) (a:Int) (hS:S≤64) (hn: ∀j:Nat,a=(j:Int)→j<S→R.getD j 0=0):Calls Tryz.prog 127 #[.pointer (some ⟨q,0,none⟩), .int .i64 a] w fun e w'=>e= .returned (.int .i64 5)∧w=w':=by
 have c1:=h.c1;by_cases h0:a<0
 · have t0:decide (a<0)=true:=decide_eq_true h0
   clear h hn h0;go_enter Tryz.func127,Tryz.ntmps127
   go_wp2;go_ret;exact ⟨rfl,rfl⟩
 · have t0:decide (a<0)=false:=decide_eq_false h0
   obtain ⟨j,rfl⟩:=Int.eq_ofNat_of_zero_le (show 0≤a by omega);by_cases hj:S≤j
   · have t1:decide (S≤j)=true:=decide_eq_true hj
     have t2:decide ((S:Int)≤(j:Int))=true:=decide_eq_true (by omega);clear h hn h0;go_enter Tryz.func127,Tryz.ntmps127
     go_wp2;go_ret;exact ⟨rfl,rfl⟩
   · have t1:decide (S≤j)=false:=decide_eq_false hj
     have t2:decide ((S:Int)≤(j:Int))=false:=decide_eq_false (by omega);have hcell:=row_cell h.regs j (by rw [h.pX];omega);rw [hn j rfl (by omega)] at hcell;have hjs:j<S:=by omega
     clear h hn h0 hj;go_enter Tryz.func127,Tryz.ntmps127
     go_wp2;go_ret;exact ⟨rfl,rfl⟩
theorem DF (h:Raw w q p g rb tv S lim T r R L) (a n:Nat) (hS:S≤64) (hn:1≤n) (ha:a+n≤S) (hR:R.getD a 0=n) (hL:aj.bI L a n true):Calls Tryz.prog 127 #[.pointer (some ⟨q,0,none⟩), .int .i64 (a:Int)] w fun e w'=>
 e= .returned (.int .i64 0)∧Now w q p g rb tv S lim T r (R.set a 0) (aj.setAt L a n false) w':=by
 have c0:=h.c0;have c1:=h.c1;have hcell:=row_cell h.regs a (by rw [h.pX];omega);rw [hR] at hcell;have hfr:w.frozen? ⟨rb,a,none⟩=false:=h.regs.frozen a;have hqr:q≠rb:=h.sep.qr;have t0:decide ((a:Int)<0)=false:=decide_eq_false (by omega);have t1:decide (S≤a)=false:=decide_eq_false (by omega);have t2:decide ((S:Int)≤(a:Int))=false:=decide_eq_false (by omega);have t3:((n:Int)==0)=false:=by rw [beq_eq_false_iff_ne];omega
 have has:a<S:=by omega
 have HN:Hid (Now w q p g rb tv S lim T r (R.set a 0) L (w.setCell ⟨rb,a,none⟩ (.int .i64 0))):=Lib.hid ((Now.start h).store a 0 0 rfl);have HF:=Lib.hid (fun w' (s:Now w q p g rb tv S lim T r (R.set a 0) L w')=>Now.free s (a:=a) (k:=n) (by omega) hn (by omega) hL);have c0':=HN.out.c0;clear h hR hL hn ha hS;go_enter Tryz.func127,Tryz.ntmps127
 go_wp2_with fail
 refine (HF.out _ HN.out).mono ?_;rintro e w2 ⟨rfl,hs⟩;have ST:=Lib.hid hs;clear hs;go_wp2;go_ret;exact ⟨rfl,ST.out⟩
theorem Dz (h:Raw w q p g rb tv S lim T r R L) (n:Int) (hS:S≤64) (hn: ¬(1≤n∧n≤(S:Int))):Calls Tryz.prog 16 #[.pointer (some ⟨q,0,none⟩), .int .i64 n] w fun e w'=>e= .returned (.tuple #[.int .i64 0, .int .i64 2])∧w=w':=by
 have c1:=h.c1;clear h;by_cases h0:n<1
 · have t0:decide (n<1)=true:=decide_eq_true h0
   clear hn h0;go_enter Tryz.func16,Tryz.ntmps16
   go_wp2
   go_ret2
   exact ⟨rfl,rfl⟩
 · have t0:decide (n<1)=false:=decide_eq_false h0
   have t1:decide ((S:Int)<n)=true:=decide_eq_true (by omega);clear hn h0;go_enter Tryz.func16,Tryz.ntmps16
   go_wp2
   go_ret2
   exact ⟨rfl,rfl⟩
theorem BF (h:Raw w q p g rb tv S lim T r R L) (n:Nat) (h1:1≤n) (h2:n≤S) (hS:S≤64) (hlim:lim≤S) (hT:T.length≤1000) (hr:r≤1000000000000) (ht:T.headD false=false) (m:Nat) (hm:aj.left L+m=S) (hl:lim<m+n):Calls Tryz.prog 16 #[.pointer (some ⟨q,0,none⟩), .int .i64 (n:Int)] w fun e w'=>
 e= .returned (.tuple #[.int .i64 0, .int .i64 4])∧Now w q p g rb tv S lim (T.drop 1) (r+1) R L w':=by
 have c1:=h.c1;have d2:=h.c2;have t0:decide ((n:Int)<1)=false:=decide_eq_false (by omega);have t1:decide (S<n)=false:=decide_eq_false (by omega);have t2:decide ((lim:Int)-(m:Int)<(n:Int))=true:=decide_eq_true (by omega);have hm2:m≤64:=by omega
 have hwr:IntKind.i64.wrap ((lim:Int)-(m:Int))=(lim:Int)-(m:Int):=IntWalk.i64_in _ ⟨by omega,by omega⟩;have HN:=Lib.hid (fun w' (s:Now w q p g rb tv S lim T r R L w')=>(s.next hT).mono (R':=fun e w2=>e= .returned (.bool false)∧Now w q p g rb tv S lim (T.drop 1) r R L w2) fun e w2 k=>⟨by rw [k.1,ht],k.2⟩);have HG:=Lib.hid (fun w' (s:Now w q p g rb tv S lim (T.drop 1) r R L w')=>s.given m hm hS);have HF:=Lib.hid (fun w' (s:Now w q p g rb tv S lim (T.drop 1) r R L w')=>s.full hr);have ST:=Lib.hid (Now.start h);clear h ht hT hm hl;go_enter Tryz.func16,Tryz.ntmps16
 go_wp2_with fail
 go_region_held3 (fun w'=>w'.cell? ⟨q,2,none⟩=some (.int .i64 (lim:Int))) (first|go_keep|exact d2)
  (first
   |(go_at_call 36;(first|(with_reducible refine (HN.out _ ST.out.drew).mono ?_)|(with_reducible refine (HN.out _ ST.out).mono ?_));rintro e w5 ⟨rfl,hst⟩;have d2:=hst.c2;have ST:=Lib.hid hst;clear hst)
   |(go_at_call 11;(first|(with_reducible refine (HG.out _ ST.out.drew).mono ?_)|(with_reducible refine (HG.out _ ST.out).mono ?_));rintro e w5 ⟨rfl,hst⟩;have d2:=hst.c2;have ST:=Lib.hid hst;clear hst))
 go_wp2_with fail
 refine (HF.out _ ST.out).mono ?_;rintro e w2 ⟨rfl,hs⟩;have ST2:=Lib.hid hs;clear hs;go_wp2
 go_ret2
 exact ⟨rfl,ST2.out⟩
theorem BI (h:Raw w q p g rb tv S lim T r R L) (n:Nat) (h1:1≤n) (h2:n≤S) (hS:S≤64) (hlim:lim≤S) (hT:T.length≤1000) (hr:r≤1000000000000) (ht:T.headD false=false) (m:Nat) (hm:aj.left L+m=S) (hl:m+n≤lim)
 (hlen:L.length=S) (hlow:aj.low L n=none):Calls Tryz.prog 16 #[.pointer (some ⟨q,0,none⟩), .int .i64 (n:Int)] w fun e w'=>
 e= .returned (.tuple #[.int .i64 0, .int .i64 4])∧Now w q p g rb tv S lim (T.drop 1) (r+1) R L w':=by
 have c1:=h.c1;have d0:=h.c0;have d2:=h.c2;have t0:decide ((n:Int)<1)=false:=decide_eq_false (by omega);have t1:decide (S<n)=false:=decide_eq_false (by omega);have t2:decide ((lim:Int)-(m:Int)<(n:Int))=false:=decide_eq_false (by omega);have hm2:m≤64:=by omega
 have hwr:IntKind.i64.wrap ((lim:Int)-(m:Int))=(lim:Int)-(m:Int):=IntWalk.i64_in _ ⟨by omega,by omega⟩;obtain ⟨e1,e2,e3⟩:=tZ (L:=L) h1 (by omega) hlow;have HN:=Lib.hid (fun w' (s:Now w q p g rb tv S lim T r R L w')=>(s.next hT).mono (R':=fun e w2=>e= .returned (.bool false)∧Now w q p g rb tv S lim (T.drop 1) r R L w2) fun e w2 k=>⟨by rw [k.1,ht],k.2⟩);have HG:=Lib.hid (fun w' (s:Now w q p g rb tv S lim (T.drop 1) r R L w')=>s.given m hm hS);have HF:=Lib.hid (fun w' (s:Now w q p g rb tv S lim (T.drop 1) r R L w')=>s.full hr);have HT:Hid (∀w',Now w q p g rb tv S lim (T.drop 1) r R L w'→Calls Tryz.prog 38 #[.pointer (some ⟨p,0,none⟩), .int .i64 (n:Int)] w' fun e w2=>e= .returned (.tuple #[.int .i64 0, .int .i64 4])∧Now w q p g rb tv S lim (T.drop 1) r R L w2):=
  Lib.hid fun w' s=>by have:=s.take (n:Int);rwa [e1,e2,e3] at this
 have ST:=Lib.hid (Now.start h);clear h ht hT hm hl e1 e2 e3 hlow hlen;go_enter Tryz.func16,Tryz.ntmps16
 go_wp2_with fail
 go_region_held3 (fun w'=>w'.cell? ⟨q,2,none⟩=some (.int .i64 (lim:Int))) (first|go_keep|exact d2)
  (first
   |(go_at_call 36;(first|(with_reducible refine (HN.out _ ST.out.drew).mono ?_)|(with_reducible refine (HN.out _ ST.out).mono ?_));rintro e w5 ⟨rfl,hst⟩;have d2:=hst.c2;have ST:=Lib.hid hst;clear hst)
   |(go_at_call 11;(first|(with_reducible refine (HG.out _ ST.out.drew).mono ?_)|(with_reducible refine (HG.out _ ST.out).mono ?_));rintro e w5 ⟨rfl,hst⟩;have d2:=hst.c2;have ST:=Lib.hid hst;clear hst))
 have d0:=ST.out.c0;go_wp2_with fail
 refine (HT.out _ ST.out).mono ?_;rintro e w2 ⟨rfl,hs⟩;have ST2:=Lib.hid hs;clear hs;go_wp2_with fail
 refine (HF.out _ ST2.out).mono ?_;rintro e w3 ⟨rfl,hs⟩;have ST3:=Lib.hid hs;clear hs;go_wp2
 go_ret2
 exact ⟨rfl,ST3.out⟩
theorem Dy (h:Raw w q p g rb tv S lim T r R L) (n:Nat) (h1:1≤n) (h2:n≤S) (hS:S≤64) (hlim:lim≤S) (hT:T.length≤1000) (ht:T.headD false=false) (m:Nat) (hm:aj.left L+m=S) (hl:m+n≤lim)
 (hlen:L.length=S) (a:Nat) (ha:a+n≤S) (hlow:aj.low L n=some a):Calls Tryz.prog 16 #[.pointer (some ⟨q,0,none⟩), .int .i64 (n:Int)] w fun e w'=>
 e= .returned (.tuple #[.int .i64 (a:Int), .int .i64 0])∧Now w q p g rb tv S lim (T.drop 1) r (R.set a n) (aj.setAt L a n true) w':=by
 have c1:=h.c1;have d0:=h.c0;have d2:=h.c2;have t0:decide ((n:Int)<1)=false:=decide_eq_false (by omega);have t1:decide (S<n)=false:=decide_eq_false (by omega);have t2:decide ((lim:Int)-(m:Int)<(n:Int))=false:=decide_eq_false (by omega);have hm2:m≤64:=by omega
 have hwr:IntKind.i64.wrap ((lim:Int)-(m:Int))=(lim:Int)-(m:Int):=IntWalk.i64_in _ ⟨by omega,by omega⟩;have has:a<S:=by omega
 obtain ⟨e1,e2,e3⟩:=xw (L:=L) h1 (by omega) hlow;have HN:=Lib.hid (fun w' (s:Now w q p g rb tv S lim T r R L w')=>(s.next hT).mono (R':=fun e w2=>e= .returned (.bool false)∧Now w q p g rb tv S lim (T.drop 1) r R L w2) fun e w2 k=>⟨by rw [k.1,ht],k.2⟩);have HG:=Lib.hid (fun w' (s:Now w q p g rb tv S lim (T.drop 1) r R L w')=>s.given m hm hS);have HT:Hid (∀w',Now w q p g rb tv S lim (T.drop 1) r R L w'→Calls Tryz.prog 38 #[.pointer (some ⟨p,0,none⟩), .int .i64 (n:Int)] w' fun e w2=>e= .returned (.tuple #[.int .i64 (a:Int), .int .i64 0])∧Now w q p g rb tv S lim (T.drop 1) r R (aj.setAt L a n true) w2):=
  Lib.hid fun w' s=>by have:=s.take (n:Int);rwa [e1,e2,e3] at this
 have ST:=Lib.hid (Now.start h);clear h ht hT hm hl e1 e2 e3 hlow hlen ha;go_enter Tryz.func16,Tryz.ntmps16
 go_wp2_with fail
 go_region_held3 (fun w'=>w'.cell? ⟨q,2,none⟩=some (.int .i64 (lim:Int))) (first|go_keep|exact d2)
  (first
   |(go_at_call 36;(first|(with_reducible refine (HN.out _ ST.out.drew).mono ?_)|(with_reducible refine (HN.out _ ST.out).mono ?_));rintro e w5 ⟨rfl,hst⟩;have d2:=hst.c2;have ST:=Lib.hid hst;clear hst)
   |(go_at_call 11;(first|(with_reducible refine (HG.out _ ST.out.drew).mono ?_)|(with_reducible refine (HG.out _ ST.out).mono ?_));rintro e w5 ⟨rfl,hst⟩;have d2:=hst.c2;have ST:=Lib.hid hst;clear hst))
 have d0:=ST.out.c0;go_wp2_with fail
 refine (HT.out _ ST.out).mono ?_;rintro e w2 ⟨rfl,hs⟩;have f1:=hs.c1;have hcell:=hs.cr a has;have hfr:=hs.fr a;obtain ⟨old,hold⟩: ∃old,R.getD a 0=old:=⟨_,rfl⟩;rw [hold] at hcell;have ST2:=Lib.hid hs;clear hs hold;go_wp2
 go_ret2
 exact ⟨rfl,ST2.out.store a n _ rfl⟩
end
end Go.Proofs.YtpibbcnkgdmcbaaGreatDoor
namespace Go.Proofs.YtpibbcnkgdmcbaaGreatDoor
open Go.RowKit
open Mk
section
variable {w w':World} {q p g rb:Nat} {tv:Value} {S lim:Nat} {T:List Bool} {r:Nat} {R:List Nat} {L:List Bool}
theorem Bz (h:Raw w q p g rb tv S lim T r R L) (n:Nat) (h1:1≤n) (h2:n≤S) (hS:S≤64) (hT:T.length≤1000) (hr:r≤1000000000000) (ht:T.headD false=true):Calls Tryz.prog 16 #[.pointer (some ⟨q,0,none⟩), .int .i64 (n:Int)] w fun e w'=>
 e= .returned (.tuple #[.int .i64 0, .int .i64 4])∧Now w q p g rb tv S lim (T.drop 1) (r+1) R L w':=by
 have c1:=h.c1;have d2:=h.c2;have t0:decide ((n:Int)<1)=false:=decide_eq_false (by omega);have t1:decide (S<n)=false:=decide_eq_false (by omega);have HN:=Lib.hid (fun w' (s:Now w q p g rb tv S lim T r R L w')=>(s.next hT).mono (R':=fun e w2=>e= .returned (.bool true)∧Now w q p g rb tv S lim (T.drop 1) r R L w2) fun e w2 k=>⟨by rw [k.1,ht],k.2⟩);have HF:=Lib.hid (fun w' (s:Now w q p g rb tv S lim (T.drop 1) r R L w')=>s.full hr);have ST:=Lib.hid (Now.start h);clear h ht hT;go_enter Tryz.func16,Tryz.ntmps16
 go_wp2_with fail
 refine wp_region_held_drew (S:=fun _=>True) (by kernel_rfl) trivial (fun hHeld=> ?_);refine wpAnyH_take (i:=0) (oi:={dst:=some 22,op:=Op.move (Operand.tmp 0),type:=41,pos:= "arena.go:67",after:= #[],guard:=none}) (v:= .pointer (some ⟨q,0,none⟩)) rfl (by kernel_rfl) (by kernel_rfl) (by kernel_rfl) (fun _ _ _ h=>h) (Or.inl ⟨by rfl,by intro w hSw;go_simp⟩) trivial ?_
 (try simp only [Act.put,List.setIfInBounds_toArray,List.set_cons_zero,List.set_cons_succ])
 refine wpAnyH_ready (rs:= [1]) (by kernel_rfl) (by simp) ?_;refine AllReadyH.cons (o:={dst:=some 23,op:=Op.call {callee:=Callee.value (Operand.func 36),args:= #[Operand.tmp 22],argTypes:= #[41]},type:=4,pos:= "arena.go:67",after:= #[{on:=0,ground:=Ground.data}],guard:=none}) rfl (fun K hK=> ?_) AllReadyH.nil;go_simp
 refine (HN.out _ ST.out.drew).mono ?_;rintro e w5 ⟨rfl,hst⟩;have ST:=Lib.hid hst;clear hst;go_wp2_with fail
 refine hK.out _ _ trivial (fun hHeld=> ?_);clear hK K
 (try simp only [Act.put,List.setIfInBounds_toArray,List.set_cons_zero,List.set_cons_succ])
 refine wpAnyH_take (i:=2) (oi:={dst:=some 24,op:=Op.move (Operand.tmp 23),type:=4,pos:= "arena.go:67",after:= #[{on:=1,ground:=Ground.data},{on:=1,ground:=Ground.chain}],guard:=none}) (v:= .bool true) rfl (by kernel_rfl) (by kernel_rfl) (by kernel_rfl) (fun _ _ _ h=>h) (Or.inl ⟨by rfl,by intro w hSw;go_simp⟩) trivial ?_
 (try simp only [Act.put,List.setIfInBounds_toArray,List.set_cons_zero,List.set_cons_succ])
 refine wpAnyH_take (i:=3) (oi:={dst:=some 25,op:=Op.move (Operand.tmp 1),type:=3,pos:= "arena.go:67",after:= #[{on:=2,ground:=Ground.guard}],guard:=some (2,false)}) (v:=undef) rfl (by kernel_rfl) (by kernel_rfl) (by kernel_rfl) (fun _ _ _ h=>h) (Or.inr ⟨by rfl,rfl⟩) trivial ?_
 (try simp only [Act.put,List.setIfInBounds_toArray,List.set_cons_zero,List.set_cons_succ])
 refine wpAnyH_take (i:=4) (oi:={dst:=some 26,op:=Op.move (Operand.tmp 0),type:=41,pos:= "arena.go:67",after:= #[{on:=2,ground:=Ground.guard}],guard:=some (2,false)}) (v:=undef) rfl (by kernel_rfl) (by kernel_rfl) (by kernel_rfl) (fun _ _ _ h=>h) (Or.inr ⟨by rfl,rfl⟩) trivial ?_
 (try simp only [Act.put,List.setIfInBounds_toArray,List.set_cons_zero,List.set_cons_succ])
 refine wpAnyH_take (i:=5) (oi:={dst:=some 27,op:=Op.nilCheck (Operand.tmp 26),type:=0,pos:= "arena.go:67",after:= #[{on:=4,ground:=Ground.data},{on:=2,ground:=Ground.guard}],guard:=some (2,false)}) (v:=undef) rfl (by kernel_rfl) (by kernel_rfl) (by kernel_rfl) (fun _ _ _ h=>h) (Or.inr ⟨by rfl,rfl⟩) trivial ?_
 (try simp only [Act.put,List.setIfInBounds_toArray,List.set_cons_zero,List.set_cons_succ])
 refine wpAnyH_take (i:=6) (oi:={dst:=some 28,op:=Op.fieldAddr 91 (Operand.tmp 27) 1,type:=0,pos:= "arena.go:67",after:= #[{on:=5,ground:=Ground.data},{on:=2,ground:=Ground.guard}],guard:=some (2,false)}) (v:=undef) rfl (by kernel_rfl) (by kernel_rfl) (by kernel_rfl) (fun _ _ _ h=>h) (Or.inr ⟨by rfl,rfl⟩) trivial ?_
 (try simp only [Act.put,List.setIfInBounds_toArray,List.set_cons_zero,List.set_cons_succ])
 refine wpAnyH_take (i:=7) (oi:={dst:=some 29,op:=Op.load 3 (Operand.tmp 28),type:=3,pos:= "arena.go:67",after:= #[{on:=6,ground:=Ground.data},{on:=2,ground:=Ground.guard}],guard:=some (2,false)}) (v:=undef) rfl (by kernel_rfl) (by kernel_rfl) (by kernel_rfl) (fun _ _ _ h=>h) (Or.inr ⟨by rfl,rfl⟩) trivial ?_
 (try simp only [Act.put,List.setIfInBounds_toArray,List.set_cons_zero,List.set_cons_succ])
 refine wpAnyH_take (i:=8) (oi:={dst:=some 30,op:=Op.move (Operand.tmp 0),type:=41,pos:= "arena.go:67",after:= #[{on:=2,ground:=Ground.guard}],guard:=some (2,false)}) (v:=undef) rfl (by kernel_rfl) (by kernel_rfl) (by kernel_rfl) (fun _ _ _ h=>h) (Or.inr ⟨by rfl,rfl⟩) trivial ?_
 (try simp only [Act.put,List.setIfInBounds_toArray,List.set_cons_zero,List.set_cons_succ])
 refine wpAnyH_take (i:=9) (oi:={dst:=some 31,op:=Op.call {callee:=Callee.value (Operand.func 11),args:= #[Operand.tmp 30],argTypes:= #[41]},type:=3,pos:= "arena.go:67",after:= #[{on:=8,ground:=Ground.data},{on:=2,ground:=Ground.chain},{on:=2,ground:=Ground.guard}],guard:=some (2,false)}) (v:=undef) rfl (by kernel_rfl) (by kernel_rfl) (by kernel_rfl) (fun _ _ _ h=>h) (Or.inr ⟨by rfl,rfl⟩) trivial ?_
 (try simp only [Act.put,List.setIfInBounds_toArray,List.set_cons_zero,List.set_cons_succ])
 refine wpAnyH_take (i:=10) (oi:={dst:=some 32,op:=Op.binOp BinOp.sub 3 (Operand.tmp 29) (Operand.tmp 31) 3,type:=3,pos:= "arena.go:67",after:= #[{on:=7,ground:=Ground.data},{on:=9,ground:=Ground.data},{on:=2,ground:=Ground.guard}],guard:=some (2,false)}) (v:=undef) rfl (by kernel_rfl) (by kernel_rfl) (by kernel_rfl) (fun _ _ _ h=>h) (Or.inr ⟨by rfl,rfl⟩) trivial ?_
 (try simp only [Act.put,List.setIfInBounds_toArray,List.set_cons_zero,List.set_cons_succ])
 refine wpAnyH_take (i:=11) (oi:={dst:=some 33,op:=Op.binOp BinOp.gtr 3 (Operand.tmp 25) (Operand.tmp 32) 3,type:=4,pos:= "arena.go:67",after:= #[{on:=3,ground:=Ground.data},{on:=10,ground:=Ground.data},{on:=2,ground:=Ground.guard}],guard:=some (2,false)}) (v:=undef) rfl (by kernel_rfl) (by kernel_rfl) (by kernel_rfl) (fun _ _ _ h=>h) (Or.inr ⟨by rfl,rfl⟩) trivial ?_
 (try simp only [Act.put,List.setIfInBounds_toArray,List.set_cons_zero,List.set_cons_succ])
 refine wpAnyH_take (i:=12) (oi:={dst:=some 34,op:=Op.pick (Operand.tmp 24) (Operand.const (Value.bool true)) (Operand.tmp 33),type:=4,pos:= "arena.go:67",after:= #[{on:=2,ground:=Ground.data},{on:=11,ground:=Ground.data}],guard:=none}) (v:= .bool true) rfl (by kernel_rfl) (by kernel_rfl) (by kernel_rfl) (fun _ _ _ h=>h) (Or.inl ⟨by rfl,by intro w hSw;go_simp⟩) trivial ?_
 (try simp only [Act.put,List.setIfInBounds_toArray,List.set_cons_zero,List.set_cons_succ])
 refine wpAnyH_done (by kernel_rfl) ?_ _;go_wp2_with fail
 refine (HF.out _ ST.out).mono ?_;rintro e w2 ⟨rfl,hs⟩;have ST2:=Lib.hid hs;clear hs;go_wp2
 go_ret2
 exact ⟨rfl,ST2.out⟩
end
end Go.Proofs.YtpibbcnkgdmcbaaGreatDoor
namespace Go.Proofs.YtpibbcnkgdmcbaaGreatDoor
open Go.RowKit aA
open Mk
def bL (w:World) (q:Nat) (own:Nat→Prop) (s:St):Prop:=
 ∃p g rb tv R L,Raw w q p g rb tv s.S s.lim s.T s.r R L∧Fits s.S s.l R L∧aA.Good s∧ ∀k,own k↔Mine q p g rb tv k
def jg (w:World) (q:Nat) (own:Nat→Prop) (s:St) (w':World):Prop:=
 (∃own',bL w' q own' s∧ ∀k,own' k→own k∨w.heap.size≤k)∧aH own w w'
theorem bL.good {w:World} {q:Nat} {own:Nat→Prop} {s:St} (h:bL w q own s):aA.Good s:=by obtain ⟨_,_,_,_,_,_,_,_,h,_⟩:=h;exact h
theorem bL.lt {w:World} {q:Nat} {own:Nat→Prop} {s:St} (h:bL w q own s) {k:Nat} (hk:own k):k<w.heap.size:=by
 obtain ⟨p,g,rb,tv,R,L,h,_,_,ho⟩:=h;exact h.lt ((ho k).1 hk)
theorem bL.upd {S:Nat→Prop} {w w':World} {q:Nat} {own:Nat→Prop} {s:St} (h:bL w q own s) (u:aH S w w') (hS: ∀k,own k→ ¬S k):bL w' q own s:=by
 obtain ⟨p,g,rb,tv,R,L,h,hf,hg,ho⟩:=h;exact ⟨p,g,rb,tv,R,L,h.upd u (fun k hk=>hS k ((ho k).2 hk)),hf,hg,ho⟩
theorem bL.alloc {w:World} {q:Nat} {own:Nat→Prop} {s:St} (h:bL w q own s) (o:Obj):bL (w.alloc o) q own s:=h.upd ((aH.refl (fun _=>False) w).alloc o) (fun _ _=>id)
theorem bL.drew {w:World} {q:Nat} {own:Nat→Prop} {s:St} (h:bL w q own s):bL w.drew q own s:=h.upd ((aH.refl (fun _=>False) w).drew) (fun _ _=>id)
theorem bL.grew {w w':World} {q:Nat} {own:Nat→Prop} {s:St} (h:bL w q own s) (hb:Below w.heap.size w w'):bL w' q own s:=h.upd (tT hb) (fun _ _=>id)
theorem jg.same {w:World} {q:Nat} {own:Nat→Prop} {s:St} (h:bL w q own s):jg w q own s w:=⟨⟨own,h,fun k h=> .inl h⟩,aH.refl _ _⟩
theorem jg.of {w w':World} {q p g rb:Nat} {tv:Value} {R:List Nat} {L:List Bool} {own:Nat→Prop} {s:St} (ho: ∀k,own k↔Mine q p g rb tv k)
 (h:Now w q p g rb tv s.S s.lim s.T s.r R L w') (hf:Fits s.S s.l R L) (hg:aA.Good s):jg w q own s w':=by
 obtain ⟨tv',hr,hi,u⟩:=h;refine ⟨⟨Mine q p g rb tv',⟨p,g,rb,tv',R,L,hr,hf,hg,fun k=>Iff.rfl⟩,fun k hk=> ?_⟩,u.mono (fun k hk=>(ho k).2 hk)⟩;rcases hk with hk|hk|hk|hk|hk
 · exact .inl ((ho k).2 (.inl hk))
 · exact .inl ((ho k).2 (.inr (.inl hk)))
 · exact .inl ((ho k).2 (.inr (.inr (.inl hk))))
 · exact .inl ((ho k).2 (.inr (.inr (.inr (.inl hk)))))
 · rcases hi k hk with h|h
   · exact .inl ((ho k).2 (.inr (.inr (.inr (.inr h)))))
   · exact .inr h
theorem Ez {w w':World} {S lim:Nat} {e:Ending} (h1:1≤S) (h2:S≤64) (h3:lim≤S) (h:Ry w S lim e w'):
 ∃q own,e= .returned (.tuple #[.pointer (some ⟨q,0,none⟩), .int .i64 0])∧bL w' q own ⟨S,lim, [], [],0⟩∧(∀k,own k→w.heap.size≤k)∧aH (fun _=>False) w w':=by
 obtain ⟨q,p,g,rb,rfl,hr,hn,hu⟩:=h;exact ⟨q,Mine q p g rb (.slice none 0 0),rfl,⟨p,g,rb,_,_,_,hr,Fits.new S,⟨h1,h2,h3,Ok.nil S,by simp [total],by simp⟩,fun k=>Iff.rfl⟩,hn,hu⟩
section
variable {w:World} {q:Nat} {own:Nat→Prop} {s:St}
theorem Az (h:bL w q own s):Calls Tryz.prog 11 #[.pointer (some ⟨q,0,none⟩)] w fun e w'=>e= .returned (.int .i64 (total s.l:Int))∧Below w.heap.size w w':=by
 obtain ⟨p,g,rb,tv,R,L,h,hf,hg,_⟩:=h;exact Aw h (total s.l) hf.left hg.S2
theorem om (h:bL w q own s) (a:Int):
 Calls Tryz.prog 127 #[.pointer (some ⟨q,0,none⟩), .int .i64 a] w fun e w'=>e= .returned (.int .i64 (release s a).1)∧jg w q own (release s a).2 w':=by
 have hA:=h;obtain ⟨p,g,rb,tv,R,L,h,hf,hg,ho⟩:=h;by_cases hh:has s a
 · have hgd:=Ci hg a
   unfold release at hgd⊢;rw [if_pos hh] at hgd⊢;obtain ⟨h0,⟨x1,n⟩,hx,e⟩:=hh;obtain ⟨a,rfl⟩:=Int.eq_ofNat_of_zero_le h0;have hxa:x1=a:=by simpa using e
   subst hxa;have hb:=hf.ok.2 _ hx;simp only at hb;refine (DF h x1 n hg.S2 hb.1 hb.2 ((hf.reg x1 n hb.1).2 hx) (hf.taken hx)).mono ?_;rintro e w' ⟨rfl,hn⟩;exact ⟨rfl,jg.of (s:={s with l:=del s.l x1}) ho hn (hf.del hx) hgd⟩
 · have hno: ∀j:Nat,a=(j:Int)→j<s.S→R.getD j 0=0:=by
    rintro j rfl hj;rcases Nat.eq_zero_or_pos (R.getD j 0) with h0|h0
    · exact h0
    · exact absurd ⟨by omega,(j,R.getD j 0),(hf.reg j _ h0).1 rfl,by simp⟩ hh
   refine (Gv h a hg.S2 hno).mono ?_;rintro e w' ⟨rfl,rfl⟩;unfold release;rw [if_neg hh];exact ⟨rfl,jg.same hA⟩
theorem jC (h:bL w q own s) (n:Int) (hr:s.r≤1000000000000):
 Calls Tryz.prog 16 #[.pointer (some ⟨q,0,none⟩), .int .i64 n] w fun e w'=>e= .returned (.tuple #[.int .i64 (reserve s n).1, .int .i64 (reserve s n).2.1])∧jg w q own (reserve s n).2.2 w':=by
 have hA:=h;obtain ⟨p,g,rb,tv,R,L,h,hf,hg,ho⟩:=h;by_cases Mj:far s n
 · rw [DC Mj]
   refine (Dz h n hg.S2 Mj).mono ?_;rintro e w' ⟨rfl,rfl⟩;exact ⟨rfl,jg.same hA⟩
 · have hn:1≤n∧n≤(s.S:Int):=Decidable.not_not.1 Mj
   obtain ⟨k,rfl⟩:=Int.eq_ofNat_of_zero_le (show 0≤n by omega);have h1:1≤k:=by omega
   have h2:k≤s.S:=by omega
   have hleft:=hf.left;by_cases ht:s.T.headD false=true
   · rw [xL h1 h2 (.inl ht)]
     refine (Bz h k h1 h2 hg.S2 hg.told hr ht).mono ?_;rintro e w' ⟨rfl,hn⟩;exact ⟨rfl,jg.of (s:=s.no) ho hn hf hg.no⟩
   · have ht:s.T.headD false=false:=by simpa using ht
     by_cases hl:s.lim<total s.l+k
     · rw [xL h1 h2 (.inr hl)]
       refine (BF h k h1 h2 hg.S2 hg.lim hg.told hr ht (total s.l) hleft (by omega)).mono ?_;rintro e w' ⟨rfl,hn⟩;exact ⟨rfl,jg.of (s:=s.no) ho hn hf hg.no⟩
     · cases hs:spot s.S s.l k with
       |none=>
        rw [aA.BH h1 h2 hs];refine (BI h k h1 h2 hg.S2 hg.lim hg.told hr ht (total s.l) hleft (by omega) hf.rY (by rw [hf.low h1,hs])).mono ?_;rintro e w' ⟨rfl,hn⟩;exact ⟨rfl,jg.of (s:=s.no) ho hn hf hg.no⟩
       |some a=>
        obtain ⟨g1,g2,g3⟩:=jY hs;rw [aA.BD h1 h2 ht (by omega) hs];refine (Dy h k h1 h2 hg.S2 hg.lim hg.told ht (total s.l) hleft (by omega) hf.rY a g1 (by rw [hf.low h1,hs])).mono ?_;rintro e w' ⟨rfl,hn⟩;exact ⟨rfl,jg.of (s:=s.give a k) ho hn (hf.put h1 g1 g2) (hg.give h1 (by omega) hs)⟩
end
def eT (w0:World) (q:Nat) (s:St) (w':World):Prop:= ∃own,bL w' q own s∧(∀k,own k→w0.heap.size≤k)∧Below w0.heap.size w0 w'
section
variable {w0 w w':World} {q:Nat} {s s':St}
theorem eT.good (h:eT w0 q s w):aA.Good s:=by obtain ⟨_,h,_⟩:=h;exact h.good
theorem eT.below (h:eT w0 q s w):Below w0.heap.size w0 w:=by obtain ⟨_,_,_,h⟩:=h;exact h
theorem eT.size (h:eT w0 q s w):w0.heap.size≤w.heap.size:=h.below.size
theorem eT.drew (h:eT w0 q s w):eT w0 q s w.drew:=by obtain ⟨own,h,ho,hb⟩:=h;exact ⟨own,h.drew,ho,hb.drew⟩
theorem eT.alloc (h:eT w0 q s w) (o:Obj):eT w0 q s (w.alloc o):=by obtain ⟨own,h,ho,hb⟩:=h;exact ⟨own,h.alloc o,ho,hb.alloc hb.size o⟩
theorem eT.grew (h:eT w0 q s w) (k:Below w.heap.size w w'):eT w0 q s w':=by obtain ⟨own,h,ho,hb⟩:=h;exact ⟨own,h.grew k,ho,hb.trans (k.mono hb.size)⟩
theorem eT.start {own:Nat→Prop} (h:bL w q own s) (ho: ∀k,own k→w0.heap.size≤k) (hb:Below w0.heap.size w0 w):eT w0 q s w:=⟨own,h,ho,hb⟩
theorem eT.given (h:eT w0 q s w):Calls Tryz.prog 11 #[.pointer (some ⟨q,0,none⟩)] w fun e w'=>e= .returned (.int .i64 (total s.l:Int))∧eT w0 q s w':=by
 have hL:=h;obtain ⟨own,h,ho,hb⟩:=h;exact (Az h).mono fun e w' k=>⟨k.1,hL.grew k.2⟩
theorem eT.became {own:Nat→Prop} (ho: ∀k,own k→w0.heap.size≤k) (hb:Below w0.heap.size w0 w) (h:jg w q own s' w'):eT w0 q s' w':=by
 obtain ⟨⟨own',h,hi⟩,u⟩:=h;refine ⟨own',h,fun k hk=> ?_,hb.trans (u.below ho hb.size)⟩;rcases hi k hk with h|h
 · exact ho k h
 · exact Nat.le_trans hb.size h
theorem eT.release (h:eT w0 q s w) (a:Int):Calls Tryz.prog 127 #[.pointer (some ⟨q,0,none⟩), .int .i64 a] w fun e w'=>e= .returned (.int .i64 (release s a).1)∧eT w0 q (release s a).2 w':=by
 obtain ⟨own,h,ho,hb⟩:=h;exact (om h a).mono fun e w' k=>⟨k.1,eT.became ho hb k.2⟩
theorem eT.reserve (h:eT w0 q s w) (n:Int) (hr:s.r≤1000000000000):Calls Tryz.prog 16 #[.pointer (some ⟨q,0,none⟩), .int .i64 n] w fun e w'=>e= .returned (.tuple #[.int .i64 (reserve s n).1, .int .i64 (reserve s n).2.1])∧eT w0 q (reserve s n).2.2 w':=by
 obtain ⟨own,h,ho,hb⟩:=h;exact (jC h n hr).mono fun e w' k=>⟨k.1,eT.became ho hb k.2⟩
end
theorem LW (S lim:Nat) (h1:1≤S) (h2:S≤64) (h3:lim≤S) {w0 w:World} (hb:Below w0.heap.size w0 w):Calls Tryz.prog 15 #[.int .i64 (S:Int), .int .i64 (lim:Int)] w fun e w'=>
 ∃q,e= .returned (.tuple #[.pointer (some ⟨q,0,none⟩), .int .i64 0])∧eT w0 q ⟨S,lim, [], [],0⟩ w':=by
 refine (Nh S lim h1 h2 h3 w).mono ?_;intro e w' h;obtain ⟨q,own,rfl,hA,ho,hu⟩:=Ez h1 h2 h3 h;exact ⟨q,rfl,own,hA,fun k hk=>Nat.le_trans hb.size (ho k hk),hb.trans (Fu hu hb.size)⟩
end Go.Proofs.YtpibbcnkgdmcbaaGreatDoor
