/- Arenas12: texts of layers below, joined (Arena1 Arena2 Arena3 Arena4 Arena5). -/
import Derived.Test.YtippfeplogkaiaaGreatDoorVec
import Derived.Test.YtippfeplogkaiaaGreatDoorArenaMath
import Derived.Test.YtippfeplogkaiaaGreatDoorMarks12
import Derived.Below
import Derived.Deep.RegionHeld3
import Derived.RegionTactic
import Derived.Deep.RegionWith
namespace Go.Proofs.YtippfeplogkaiaaGreatDoor
open Go.RowKit
open Mk
set_option linter.unusedVariables false
set_option maxRecDepth 100000
theorem below_false {w w':World} {B:Nat} (h:Upd (fun _=>False) w w') (hB:B≤w.heap.size):Below B w w':=h.below (fun k x=>x.elim) hB
theorem IsMarks.drewN {w:World} {p o g:Nat} {L:List Bool} (h:IsMarks w p o g L) (n:Nat):IsMarks (w.drewN n) p o g L:=⟨h.head,h.row,h.ne,h.pos,h.big⟩
theorem IsMarks.drew {w:World} {p o g:Nat} {L:List Bool} (h:IsMarks w p o g L):IsMarks w.drew p o g L:=⟨h.head,h.row,h.ne,h.pos,h.big⟩
theorem wf_small (n:Nat) (h:n≤1000000):(Lit.int .i64 (n:Int)).wf=true:=I64.wf ⟨by omega,by omega⟩
theorem updFalseA {w w':World} (h:Below w.heap.size w w'):Upd (fun _=>False) w w':=⟨h.os,h.tape,h.output,h.size,fun k hk _=>h.block k hk⟩
theorem upd_cell (w:World) (q i:Nat) (v:Value):Upd (fun k=>k=q) w (w.setCell ⟨q,i,none⟩ v):=(Upd.refl (fun k=>k=q) w).setCell (p:=⟨q,i,none⟩) (.inl rfl) v
def n64 (n:Nat):Value:= .int .i64 (n:Int)
theorem row_cell {w:World} {e:TypeId} {g:Nat} {R:List Nat} (h:Blk w g e (R.map n64).toArray) (j:Nat) (hj:j<R.length):w.cell? ⟨g,j,none⟩=some (.int .i64 ((R.getD j 0:Nat):Int)):=by
  rw [Blk.cell h,List.getElem?_toArray,List.getElem?_map]
  simp [List.getD_eq_getElem?_getD,hj,n64]
theorem row_putA {w:World} {e:TypeId} {g:Nat} {R:List Nat} (h:Blk w g e (R.map n64).toArray) (p x:Nat) (X:Int) (hX:X=(x:Int)):Blk (w.setCell ⟨g,p,none⟩ (.int .i64 X)) g e ((R.set p x).map n64).toArray:=by
  subst hX
  have:=Blk.put h p (.int .i64 (x:Int))
  rw [List.map_set]
  rw [List.setIfInBounds_toArray] at this
  exact this
theorem made_ints (n:Nat):madeCells (Value.cells (.int .i64 0)) n=((List.replicate n 0).map n64).toArray:=by
  apply Array.ext
  · simp [madeCells]
  · intro i h1 h2
    simp [madeCells,Value.cells,Nat.mod_one,n64]
section
variable {P:Program}
theorem wpList_make_ints {w:World} {ops:Array Oper} {rest:List Oper} {o:Oper} {a:Act} {Q:Exit→Act→World→Prop}
    (hgd:o.guard=none) (l c:Operand) (t:TypeId) (ho:o.op= .makeSlice t l c)
    (e:TypeId) (i:TypeInfo) (ht:P.underlying t=some (.slice e)) (hi:P.info? e=some i) (hz:i.zero=some (.int .i64 0)) (hsize:i.size=1) (hby:i.bytes=8)
    (k k':IntKind) (C:Int) (n:Nat) (hl:a.eval l= .int k C) (hc:a.eval c= .int k' C) (hC:C=(n:Int)) (hn:n≤1000000000000)
    (hK: ∀w',Blk w' w.heap.size e ((List.replicate n 0).map n64).toArray→Upd (fun _=>False) w w'→w'.heap.size=w.heap.size+1→wpList P ops Q rest (a.put o.dst (.slice (some ⟨w.heap.size,0,none⟩) n n)) w'):
    wpList P ops Q (o::rest) a w:=by
  refine wpList_plain hgd fun K hK'=> ?_
  subst hC
  have hrun:=run_make (P:=P) w t e i (.int .i64 0) ht hi hz k k' (n:Int) (n:Int) (by omega) (by omega) (by rw [hby];omega) (by omega)
  simp only [Int.toNat_natCast,hsize,Nat.mul_one,made_ints] at hrun
  unfold Oper.wp
  simp only [execOp,ho,hl,hc,Sem.run_bind,hrun,Result.andThen_ok,Sem.run_pure]
  exact hK' _ _ (hK _ (heap_alloc_new w _) ((Upd.refl _ _).alloc _) (by simp))
end
structure Sep (q p g rb:Nat) (tv:Value):Prop where
  qp:q≠p
  qg:q≠g
  qr:q≠rb
  pr:p≠rb
  gr:g≠rb
  t: ∀k,In tv k→k≠q∧k≠p∧k≠g∧k≠rb
def Mine (q p g rb:Nat) (tv:Value) (k:Nat):Prop:=k=q∨k=p∨k=g∨k=rb∨In tv k
structure Raw (w:World) (q p g rb:Nat) (tv:Value) (S lim:Nat) (T:List Bool) (r:Nat) (R:List Nat) (L:List Bool):Prop where
  head:Blk w q 122 #[.pointer (some ⟨p,0,none⟩), .slice (some ⟨rb,0,none⟩) S S, .int .i64 (lim:Int),tv, .int .i64 (r:Int)]
  marks:IsMarks w p 0 g L
  regs:Blk w rb 3 (R.map n64).toArray
  lenR:R.length=S
  told:Vec Elem.bools w tv T
  sep:Sep q p g rb tv
section
variable {w w':World} {q p g rb:Nat} {tv:Value} {S lim:Nat} {T:List Bool} {r:Nat} {R:List Nat} {L:List Bool}
theorem Raw.c0 (h:Raw w q p g rb tv S lim T r R L):w.cell? ⟨q,0,none⟩=some (.pointer (some ⟨p,0,none⟩)):=h.head.cell 0
theorem Raw.c1 (h:Raw w q p g rb tv S lim T r R L):w.cell? ⟨q,1,none⟩=some (.slice (some ⟨rb,0,none⟩) S S):=h.head.cell 1
theorem Raw.c2 (h:Raw w q p g rb tv S lim T r R L):w.cell? ⟨q,2,none⟩=some (.int .i64 (lim:Int)):=h.head.cell 2
theorem Raw.c3 (h:Raw w q p g rb tv S lim T r R L):w.cell? ⟨q,3,none⟩=some tv:=h.head.cell 3
theorem Raw.c4 (h:Raw w q p g rb tv S lim T r R L):w.cell? ⟨q,4,none⟩=some (.int .i64 (r:Int)):=h.head.cell 4
theorem Raw.lt (h:Raw w q p g rb tv S lim T r R L) {k:Nat} (hk:Mine q p g rb tv k):k<w.heap.size:=by
  rcases hk with rfl|rfl|rfl|rfl|hk
  · exact h.head.lt
  · exact h.marks.lt
  · exact h.marks.row.lt
  · exact h.regs.lt
  · exact h.told.lt hk
theorem Raw.upd {X:Nat→Prop} (h:Raw w q p g rb tv S lim T r R L) (u:Upd X w w') (hX: ∀k,Mine q p g rb tv k→ ¬X k):Raw w' q p g rb tv S lim T r R L:=
  ⟨h.head.upd u (hX q (.inl rfl)),h.marks.upd u (hX p (.inr (.inl rfl))) (hX g (.inr (.inr (.inl rfl)))),h.regs.upd u (hX rb (.inr (.inr (.inr (.inl rfl))))),h.lenR,h.told.upd u (fun k hk=>hX k (.inr (.inr (.inr (.inr hk))))),h.sep⟩
theorem Raw.grew (h:Raw w q p g rb tv S lim T r R L) (hb:Below w.heap.size w w'):Raw w' q p g rb tv S lim T r R L:=h.upd (updFalseA hb) (fun _ _=>id)
theorem Raw.alloc (h:Raw w q p g rb tv S lim T r R L) (o:Obj):Raw (w.alloc o) q p g rb tv S lim T r R L:=h.upd ((Upd.refl (fun _=>False) w).alloc o) (fun _ _=>id)
theorem Raw.drew (h:Raw w q p g rb tv S lim T r R L):Raw w.drew q p g rb tv S lim T r R L:=h.upd ((Upd.refl (fun _=>False) w).drew) (fun _ _=>id)
theorem Raw.count (h:Raw w q p g rb tv S lim T r R L) (n:Nat) (X:Int) (hX:X=(n:Int)):Raw (w.setCell ⟨q,4,none⟩ (.int .i64 X)) q p g rb tv S lim T n R L:=by
  subst hX
  have u:Upd (fun k=>k=q) w (w.setCell ⟨q,4,none⟩ (.int .i64 (n:Int))):=upd_cell w _ _ _
  exact ⟨h.head.put 4 _,h.marks.upd u (Ne.symm h.sep.qp) (Ne.symm h.sep.qg),h.regs.upd u (Ne.symm h.sep.qr),h.lenR,h.told.upd u (fun k hk=>(h.sep.t k hk).1),h.sep⟩
theorem Raw.tell (h:Raw w q p g rb tv S lim T r R L) {tv':Value} {T':List Bool} (hv:Vec Elem.bools w tv' T') (hs: ∀k,In tv' k→k≠q∧k≠p∧k≠g∧k≠rb):Raw (w.setCell ⟨q,3,none⟩ tv') q p g rb tv' S lim T' r R L:=by
  have u:Upd (fun k=>k=q) w (w.setCell ⟨q,3,none⟩ tv'):=upd_cell w _ _ _
  exact ⟨h.head.put 3 _,h.marks.upd u (Ne.symm h.sep.qp) (Ne.symm h.sep.qg),h.regs.upd u (Ne.symm h.sep.qr),h.lenR,hv.upd u (fun k hk=>(hs k hk).1),⟨h.sep.qp,h.sep.qg,h.sep.qr,h.sep.pr,h.sep.gr,hs⟩⟩
theorem Raw.region (h:Raw w q p g rb tv S lim T r R L) (a n:Nat) (X:Int) (hX:X=(n:Int)):Raw (w.setCell ⟨rb,a,none⟩ (.int .i64 X)) q p g rb tv S lim T r (R.set a n) L:=by
  have u:Upd (fun k=>k=rb) w (w.setCell ⟨rb,a,none⟩ (.int .i64 X)):=upd_cell w _ _ _
  exact ⟨h.head.upd u h.sep.qr,h.marks.upd u h.sep.pr h.sep.gr,row_putA h.regs a n X hX,by rw [List.length_set];exact h.lenR,h.told.upd u (fun k hk=>(h.sep.t k hk).2.2.2),h.sep⟩
theorem Raw.marked (h:Raw w q p g rb tv S lim T r R L) {M:List Bool} (hm:IsMarks w' p 0 g M) (u:Upd (fun k=>k=g) w w'):Raw w' q p g rb tv S lim T r R M:=
  ⟨h.head.upd u h.sep.qg,hm,h.regs.upd u (Ne.symm h.sep.gr),h.lenR,h.told.upd u (fun k hk=>(h.sep.t k hk).2.2.1),h.sep⟩
theorem Vec.shape {α:Type} {E:Elem α} {w:World} {v:Value} {l:List α} (h:Vec E w v l): ∃a cap,v= .slice a l.length cap∧l.length≤cap∧cap≤9223372036854775807:=by
  rcases h with ⟨rfl,rfl⟩|⟨g,off,cap,rfl,_,h1,h2,_⟩
  · exact ⟨none,0,rfl,by simp,by omega⟩
  · exact ⟨_,cap,rfl,h1,by simp only [maxLen] at h2;omega⟩
theorem Vec.is {α:Type} {E:Elem α} {w:World} {v:Value} {l:List α} (h:Vec E w v l): ∃a n cap,v= .slice a n cap:=by
  obtain ⟨a,cap,rfl,_,_⟩:=h.shape;exact ⟨a,_,cap,rfl⟩
end
theorem infoI:(Tryz.prog.info? 3).map (fun i=>(i.zero,i.size,i.bytes))=some (some (.int .i64 0),1,8):=by kernel_rfl
def NewOut (w:World) (S lim:Nat) (e:Ending) (w':World):Prop:=
  ∃q p g rb,e= .returned (.tuple #[.pointer (some ⟨q,0,none⟩), .int .i64 0])∧Raw w' q p g rb (.slice none 0 0) S lim [] 0 (List.replicate S 0) (MarkMath.rep S false)∧(∀k,Mine q p g rb (.slice none 0 0) k→w.heap.size≤k)∧Upd (fun _=>False) w w'
theorem arena_new (S lim:Nat) (h1:1≤S) (h2:S≤64) (h3:lim≤S) (w:World):Calls Tryz.prog 76 #[.int .i64 (S:Int), .int .i64 (lim:Int)] w (NewOut w S lim):=by
  obtain ⟨i0,hi,hz0,hz1,hz2⟩:=info_parts infoI
  have t1:decide ((64:Int)<(S:Int))=false:=decide_eq_false (by omega)
  have t2:decide ((lim:Int)<0)=false:=decide_eq_false (by omega)
  have t3:decide (S<lim)=false:=decide_eq_false (by omega)
  have H1:=Lib.hid h1;have H2:=Lib.hid h2;have H3:=Lib.hid h3
  go_enter Tryz.func76,Tryz.ntmps76
  go_wp2_with fail
  refine (new_ok S h1 (by omega) _).mono ?_;rintro e w1 ⟨p,g,rfl,hm,hp,hg,hu⟩
  have M1:=Lib.hid hm;have U1:=Lib.hid hu
  have HP:=Lib.hid hp;have HG:=Lib.hid hg
  clear hm hu hp hg h1 h2 h3
  go_wp2_with (at_make;refine wpList_make_ints rfl _ _ 84 rfl 3 i0 Tryz.underlying84 hi hz0 hz1 hz2 _ _ _ S rfl rfl rfl ?_ ?_;(have:=H2.out;omega);intro w2 hr hu hs)
  have S2:=Lib.hid hs;have R2:=Lib.hid hr;have U2:=Lib.hid hu
  clear hs hr hu t1 t2 t3
  go_wp2
  go_ret2
  have e2:=S2.out
  have l1:=M1.out.lt
  have l2:=M1.out.row.lt
  have hn:=M1.out.ne
  have u1:=U1.out.size
  have p1:=HP.out
  have g1:=HG.out
  refine ⟨w2.heap.size,p,g,w1.heap.size,by rw [e2];rfl,⟨?_,(M1.out.upd U2.out id id).alloc _,R2.out.alloc _,by simp,Vec.nil _,⟨by omega,by omega,by omega,by omega,by omega,by intro k hk;cases hk⟩⟩, ?_,(U1.out.trans U2.out).alloc _⟩
  · exact Blk.new w2 _ _
  · rintro k (rfl|rfl|rfl|rfl|hk)
    · omega
    · omega
    · omega
    · omega
    · cases hk
section
variable {w:World} {q p g rb:Nat} {tv:Value} {S lim:Nat} {T:List Bool} {r:Nat} {R:List Nat} {L:List Bool}
theorem refused_raw (h:Raw w q p g rb tv S lim T r R L):Calls Tryz.prog 32 #[.pointer (some ⟨q,0,none⟩)] w fun e w'=>e= .returned (.int .i64 (r:Int))∧w=w':=by
  have c4:=h.c4
  clear h
  go_enter Tryz.func32,Tryz.ntmps32
  go_wp2
  go_ret
  exact ⟨rfl,rfl⟩
theorem full_raw (h:Raw w q p g rb tv S lim T r R L) (hr:r≤1000000000000):Calls Tryz.prog 137 #[.pointer (some ⟨q,0,none⟩)] w fun e w'=>
    e= .returned (.tuple #[.int .i64 0, .int .i64 4])∧Raw w' q p g rb tv S lim T (r+1) R L∧Upd (fun k=>k=q) w w':=by
  have c4:=h.c4
  have f4:w.frozen? ⟨q,4,none⟩=false:=h.head.frozen 4
  have H:=Lib.hid h
  clear h
  go_enter Tryz.func137,Tryz.ntmps137
  go_wp2
  go_ret2
  exact ⟨rfl,H.out.count (r+1) _ (by omega),upd_cell w _ _ _⟩
theorem sizeBs (w:World):(sizeOf (Tryz.prog.elem 23)).run Tryz.prog w= .ok Elem.bools.size w:=by kernel_rfl
theorem next_raw (h:Raw w q p g rb tv S lim T r R L) (hT:T.length≤1000):Calls Tryz.prog 136 #[.pointer (some ⟨q,0,none⟩)] w fun e w'=>
    e= .returned (.bool (T.headD false))∧(∃tv',Raw w' q p g rb tv' S lim (T.drop 1) r R L∧ ∀k,In tv' k→In tv k)∧Upd (fun k=>k=q) w w':=by
  have c3:=h.c3
  have f3:w.frozen? ⟨q,3,none⟩=false:=h.head.frozen 3
  obtain ⟨a,cap,rfl,h1,h2⟩:=h.told.shape
  have H:=Lib.hid h
  clear h
  cases T with
  | nil=>
    simp only [List.length_nil] at c3 h1 hT
    go_enter Tryz.func136,Tryz.ntmps136
    go_wp2
    go_ret
    exact ⟨rfl,⟨_,H.out,fun _ h=>h⟩,Upd.refl _ _⟩
  | cons b T=>
    obtain ⟨tb,off,rfl,hc⟩:=H.out.told.seq.elem (i:=0) (x:=b) rfl
    have hcell:=hc 0 (.bool b) rfl
    simp only [Nat.zero_mul,Nat.add_zero] at hcell
    obtain ⟨sv,hsv,hin,_,hvec⟩:=cut_from (E:=Elem.bools) (P:=Tryz.prog) 23 Tryz.underlying23 sizeBs (some ⟨tb,off,none⟩) (b::T).length cap 1 (by simp) h1
    rw [show ((1:Nat):Int)=(1:Int) from rfl] at hsv
    obtain ⟨a',n',cap',rfl⟩:=(hvec _ _ H.out.told).is
    have HI:=Lib.hid hin;have HV:=Lib.hid hvec
    obtain ⟨n,hn⟩: ∃n,(b::T).length=n:=⟨_,rfl⟩
    have hn1:1≤n:=by rw [←hn];simp
    have tn:((n:Int)==0)=false:=by rw [beq_eq_false_iff_ne];omega
    rw [hn] at c3 h1 hsv hT
    have HN:=Lib.hid hn
    clear hc hin hvec hn
    go_enter Tryz.func136,Tryz.ntmps136
    go_wp2
    go_ret
    refine ⟨rfl,⟨_,H.out.tell (HV.out _ _ H.out.told) (fun k hk=>H.out.sep.t k (HI.out k hk)),HI.out⟩,upd_cell w _ _ _⟩
theorem infoBs:(Tryz.prog.info? 4).map (fun i=>(i.zero,i.size,i.bytes))=some (some (.bool false),1,1):=by kernel_rfl
theorem refuse_raw (h:Raw w q p g rb tv S lim T r R L) (hT:T.length≤1000) {v:Value} {m:List Bool} (hv:Seq Elem.bools w v m) (hm:T.length+m.length≤1000):
    Calls Tryz.prog 15 #[.pointer (some ⟨q,0,none⟩),v] w fun e w'=>
    e= .returned (.int .i64 0)∧(∃tv',Raw w' q p g rb tv' S lim (T++m) r R L∧ ∀k,In tv' k→In tv k∨w.heap.size≤k)∧Upd (fun k=>k=q∨In tv k) w w':=by
  obtain ⟨i0,hi,hz0,hz1,hz2⟩:=info_parts infoBs
  have c3:=h.c3
  have f3:w.frozen? ⟨q,3,none⟩=false:=h.head.frozen 3
  obtain ⟨a,cap,rfl,h1,h2⟩:=h.told.shape
  obtain ⟨A,vc,rfl⟩: ∃A vc,v= .slice A m.length vc:=by
    rcases hv with ⟨b,off,c,rfl,_⟩|⟨rfl,A,c,rfl,_⟩
    · exact ⟨_,c,rfl⟩
    · exact ⟨A,c,rfl⟩
  have t1:decide ((1000:Int)-(T.length:Int)<(m.length:Int))=false:=decide_eq_false (by omega)
  have hq: ¬In (.slice a T.length cap) q:=fun hk=>(h.sep.t q hk).1 rfl
  have HC:Hid (∀w1,Upd (In (.slice a T.length cap)) w w1→w1.cell? ⟨q,3,none⟩=some (.slice a T.length cap)):=Lib.hid fun w1 hu1=>(World.cell?_of_block (w:=w) (hu1.block q h.head.lt hq)).trans c3
  have HF:Hid (∀w1,Upd (In (.slice a T.length cap)) w w1→w1.frozen? ⟨q,3,none⟩=false):=Lib.hid fun w1 hu1=>(World.frozen?_of_block (w:=w) (hu1.block q h.head.lt hq)).trans f3
  have H:=Lib.hid h;have HV:=Lib.hid hv
  clear h hv
  go_enter Tryz.func15,Tryz.ntmps15
  go_wp2_with (at_builtin;refine wpList_append_vec (E:=Elem.bools) rfl (.tmp 20) (.tmp 21) 23 rfl 4 i0 (.bool false) 1 Tryz.underlying23 hi hz0 hz1 hz2 rfl (.slice a T.length cap) (.slice A m.length vc) T m rfl rfl H.out.told HV.out ?_ ?_ ?_;(simp only [maxLen];omega);omega;intro v' w1 hv1 hu1 hin1;obtain ⟨a',n',cap',rfl⟩:=hv1.is;have c3':=HC.out w1 hu1;have f3':=HF.out w1 hu1)
  have V1:=Lib.hid hv1;have U1:=Lib.hid hu1;have N1:=Lib.hid hin1
  clear hv1 hu1 hin1 t1 c3 f3
  go_wp2
  go_ret
  have u1:=U1.out
  have sp:=H.out.sep
  have hl:=fun k hk=>H.out.lt (k:=k) hk
  have bk: ∀k,k=q∨k=p∨k=g∨k=rb→ ¬In (.slice a T.length cap) k:=by
    intro k hk hin
    have:=sp.t k hin
    omega
  have hnew: ∀k,In (.slice a' n' cap') k→k≠q∧k≠p∧k≠g∧k≠rb:=by
    intro k hk
    rcases N1.out k hk with h|h
    · exact sp.t k h
    · have a1:=hl q (.inl rfl)
      have a2:=hl p (.inr (.inl rfl))
      have a3:=hl g (.inr (.inr (.inl rfl)))
      have a4:=hl rb (.inr (.inr (.inr (.inl rfl))))
      omega
  have u2:Upd (fun k=>k=q) w1 (w1.setCell ⟨q,3,none⟩ (.slice a' n' cap')):=upd_cell w1 _ _ _
  refine ⟨rfl,⟨_,⟨(H.out.head.upd u1 (bk q (.inl rfl))).put 3 _,(H.out.marks.upd u1 (bk p (.inr (.inl rfl))) (bk g (.inr (.inr (.inl rfl))))).upd u2 (Ne.symm sp.qp) (Ne.symm sp.qg),(H.out.regs.upd u1 (bk rb (.inr (.inr (.inr rfl))))).upd u2 (Ne.symm sp.qr),H.out.lenR,V1.out.upd u2 (fun k hk=>(hnew k hk).1),⟨sp.qp,sp.qg,sp.qr,sp.pr,sp.gr,hnew⟩⟩,N1.out⟩,(u1.mono (fun k hk=> .inr hk)).trans (u2.mono (fun k hk=> .inl hk))⟩
theorem refuse_raw_full (h:Raw w q p g rb tv S lim T r R L) (hT:T.length≤1000) {v:Value} {m:List Bool} (hv:Seq Elem.bools w v m) (hm:1000<T.length+m.length):
    Calls Tryz.prog 15 #[.pointer (some ⟨q,0,none⟩),v] w fun e w'=>e= .returned (.int .i64 4)∧w=w':=by
  have c3:=h.c3
  obtain ⟨a,cap,rfl,h1,h2⟩:=h.told.shape
  obtain ⟨A,vc,rfl⟩: ∃A vc,v= .slice A m.length vc:=by
    rcases hv with ⟨b,off,c,rfl,_⟩|⟨rfl,A,c,rfl,_⟩
    · exact ⟨_,c,rfl⟩
    · exact ⟨A,c,rfl⟩
  have t1:decide ((1000:Int)-(T.length:Int)<(m.length:Int))=true:=decide_eq_true (by omega)
  clear h hv
  go_enter Tryz.func15,Tryz.ntmps15
  go_wp2
  go_ret
  exact ⟨rfl,rfl⟩
end
end Go.Proofs.YtippfeplogkaiaaGreatDoor
namespace Go.Proofs.YtippfeplogkaiaaGreatDoor
open Go.RowKit
open Mk
set_option linter.unusedVariables false
set_option maxRecDepth 100000
section
variable {w:World} {q p g rb:Nat} {tv:Value} {S lim:Nat} {T:List Bool} {r:Nat} {R:List Nat} {L:List Bool}
def Held (w:World) (q p g rb:Nat) (tv:Value) (S lim:Nat) (T:List Bool) (r:Nat) (R:List Nat) (L:List Bool) (w':World):Prop:=Raw w' q p g rb tv S lim T r R L∧Below w.heap.size w w'
theorem Held.drew {w':World} (s:Held w q p g rb tv S lim T r R L w'):Held w q p g rb tv S lim T r R L w'.drew:=⟨s.1.drew,s.2.drew⟩
theorem left_held {w':World} (s:Held w q p g rb tv S lim T r R L w'):Calls Tryz.prog 71 #[.pointer (some ⟨p,0,none⟩)] w' fun e w2=>e= .returned (.int .i64 (MarkMath.left L:Nat))∧Held w q p g rb tv S lim T r R L w2:=
  (left_any s.1.marks).mono fun e w2 k=>⟨k.1,s.1.grew k.2,s.2.trans (k.2.mono s.2.size)⟩
theorem given_raw (h:Raw w q p g rb tv S lim T r R L) (n:Nat) (hn:MarkMath.left L+n=S) (hS:S≤64):Calls Tryz.prog 37 #[.pointer (some ⟨q,0,none⟩)] w fun e w'=>e= .returned (.int .i64 (n:Int))∧Below w.heap.size w w':=by
  obtain ⟨k,hk⟩: ∃k,MarkMath.left L=k:=⟨_,rfl⟩
  have HL:Hid (∀w',Held w q p g rb tv S lim T r R L w'→Calls Tryz.prog 71 #[.pointer (some ⟨p,0,none⟩)] w' fun e w2=>e= .returned (.int .i64 (k:Int))∧Held w q p g rb tv S lim T r R L w2):=
    Lib.hid fun w' s=>(left_held s).mono fun e w2 x=>⟨by rw [x.1,hk],x.2⟩
  rw [hk] at hn
  have d0:=h.c0
  have d1:=h.c1
  have ST:Hid (Held w q p g rb tv S lim T r R L w):=Lib.hid ⟨h,Below.refl _ _⟩
  have hkS:k≤64:=by omega
  have HN:=Lib.hid hn
  clear h hk hn
  go_enter Tryz.func37,Tryz.ntmps37
  go_wp2_with fail
  go_region_held3 (fun w'=>w'.cell? ⟨q,0,none⟩=some (.pointer (some ⟨p,0,none⟩))∧w'.cell? ⟨q,1,none⟩=some (.slice (some ⟨rb,0,none⟩) S S)) (first|go_keep|exact ⟨d0,d1⟩)
    (first
      |(go_at_call 71;(first|(with_reducible refine (HL.out _ ST.out.drew).mono ?_)|(with_reducible refine (HL.out _ ST.out).mono ?_));rintro e w5 ⟨rfl,hst⟩;have d0:=hst.1.c0;have d1:=hst.1.c1;have ST:=Lib.hid hst;clear hst))
  go_wp2
  go_ret
  refine ⟨?_,ST.out.2⟩
  have:=HN.out
  rw [show (S:Int)-(k:Int)=(n:Int) by omega]
  show Ending.returned (.int .i64 (IntKind.i64.wrap (n:Int)))=_
  rw [IntWalk.i64_in _ ⟨by omega,by omega⟩]
theorem infoReg:(Tryz.prog.info? 268).map (fun i=>(i.zero,i.size,i.bytes))=some (some (.agg #[.int .i64 0, .int .i64 0]),2,16):=by kernel_rfl
def Listing (w:World) (q p g rb:Nat) (tv:Value) (S lim:Nat) (T:List Bool) (r:Nat) (R:List Nat) (L:List Bool) (l:List (Nat×Nat)) (v i:Value) (wr:World):Prop:=
  ∃k:Nat,k≤S∧i= .int .i64 (k:Int)∧Vec Elem.pairs wr v (ArenaMath.upto l k)∧(∀b,In v b→w.heap.size≤b)∧Held w q p g rb tv S lim T r R L wr
theorem two_newA (w:World) (t:TypeId) (a n g:Nat) (hg:g=w.heap.size):Seq Elem.pairs (w.alloc (.cells #[.int .i64 (a:Int), .int .i64 (n:Int)] t)) (.slice (some ⟨g,0,none⟩) 1 1) [(a,n)]:=by
  subst hg;exact Seq.new (E:=Elem.pairs) w t [(a,n)] 1
set_option maxRecDepth 100000 in
theorem regions_raw (h:Raw w q p g rb tv S lim T r R L) {l:List (Nat×Nat)} (hf:ArenaMath.Fits S l R L) (hS:S≤64):Calls Tryz.prog 166 #[.pointer (some ⟨q,0,none⟩)] w fun e w'=>
    ∃v,e= .returned v∧Vec Elem.pairs w' v l∧(∀b,In v b→w.heap.size≤b)∧Below w.heap.size w w':=by
  obtain ⟨i0,hi,hz0,hz1,hz2⟩:=info_parts infoReg
  have d0:=h.c0
  have d1:=h.c1
  have hlt:l.length≤64:=by have:=ArenaMath.length_le_total hf.ok;have:=hf.left;omega
  have ST:Hid (Held w q p g rb tv S lim T r R L w):=Lib.hid ⟨h,Below.refl _ _⟩
  have H0:=Lib.hid h
  have HF:=Lib.hid hf
  have HLT:=Lib.hid hlt
  have lenR:=h.lenR
  clear h hf hlt
  go_enter Tryz.func166,Tryz.ntmps166
  go_wp2
  go_loopw [3,14] (fun v i wr=>Listing w q p g rb tv S lim T r R L l v i wr) (fun v i _=>S-(intOf i).toNat)
  case atStart=>exact ⟨0,Nat.zero_le _,rfl,(by rw [ArenaMath.upto_zero];exact Vec.nil _),(by intro b hb;cases hb),ST.out⟩
  case round=>
    obtain ⟨k,hk,rfl,hv,hin,hst⟩:=hrel
    have HV:=Lib.hid hv;have HI:=Lib.hid hin;have ST:=Lib.hid hst
    have hup:=ArenaMath.upto_len HF.out.ok k
    have hll:=HLT.out
    obtain ⟨a',n',cap',rfl⟩:=hv.is
    have sr:=hst.2.size
    clear hv hin hst
    by_cases hlt:k<S
    · have hcell:=row_cell ST.out.1.regs k (by omega)
      obtain ⟨c,hcd⟩: ∃c,R.getD k 0=c:=⟨_,rfl⟩
      rw [hcd] at hcell
      have HC:=Lib.hid hcd
      clear hcd
      by_cases hc:0<c
      · have t1:decide ((0:Int)<(c:Int))=true:=decide_eq_true (by omega)
        have t2:decide (0<c)=true:=decide_eq_true hc
        have HP:=Lib.hid hc
        have hbb:=Lib.hid (two_newA wr 268 k c)
        clear hc
        go_wp2_with (at_builtin;refine wpList_append_vec (E:=Elem.pairs) rfl (.tmp 21) (.tmp 25) 266 rfl 268 i0 (.agg #[.int .i64 0, .int .i64 0]) 16 Tryz.underlying266 hi hz0 hz1 hz2 rfl (.slice a' n' cap') (.slice (some ⟨wr.heap.size,0,none⟩) 1 1) (ArenaMath.upto l k) [(k,c)] rfl rfl (HV.out.alloc _) (hbb.out _ rfl) ?_ ?_ ?_;(simp only [maxLen,List.length_cons,List.length_nil];omega);(simp only [List.length_cons,List.length_nil];omega);intro v' w1 hv1 hu1 hin1;have V1:=Lib.hid hv1;have U1:=Lib.hid hu1;have N1:=Lib.hid hin1;clear hv1 hu1 hin1)
        go_roundw
        case rel=>
          refine ⟨k+1,by omega,by go_num,by rw [ArenaMath.upto_snoc HF.out HP.out HC.out];exact V1.out,fun b hb=> ?_, ?_, ?_⟩
          · rcases N1.out b hb with h|h
            · exact HI.out b h
            · exact Nat.le_trans sr (Nat.le_trans (by simp) h)
          · exact (ST.out.1.alloc _).upd U1.out (fun b hb hin=>by
              have h1:=H0.out.lt hb
              have h2:=HI.out b hin
              omega)
          · exact (ST.out.2.alloc sr _).trans (U1.out.below HI.out (Nat.le_trans sr (by simp)))
        case measure=>simp [intOf];omega
      · have t1:decide ((0:Int)<(c:Int))=false:=decide_eq_false (by omega)
        have t2:decide (0<c)=false:=decide_eq_false hc
        have HZ:=Lib.hid (show R.getD k 0=0 by rw [HC.out];omega)
        clear hc
        go_wp2
        go_roundw
        case rel=>exact ⟨k+1,by omega,by go_num,by rw [ArenaMath.upto_none HF.out HZ.out];exact HV.out,HI.out,ST.out⟩
        case measure=>simp [intOf];omega
    · obtain rfl:k=S:=by omega
      go_wp2
      go_ret
      exact ⟨_,rfl,by rw [ArenaMath.upto_all HF.out.ok] at HV;exact HV.out,HI.out,ST.out.2⟩
end
end Go.Proofs.YtippfeplogkaiaaGreatDoor
namespace Go.Proofs.YtippfeplogkaiaaGreatDoor
open Go.RowKit
open Mk
set_option linter.unusedVariables false
set_option maxRecDepth 100000
def Now (w:World) (q p g rb:Nat) (tv:Value) (S lim:Nat) (T:List Bool) (r:Nat) (R:List Nat) (L:List Bool) (w':World):Prop:=
  ∃tv',Raw w' q p g rb tv' S lim T r R L∧(∀k,In tv' k→In tv k∨w.heap.size≤k)∧Upd (Mine q p g rb tv) w w'
section
variable {w w':World} {q p g rb:Nat} {tv:Value} {S lim:Nat} {T:List Bool} {r:Nat} {R:List Nat} {L:List Bool}
theorem Now.start (h:Raw w q p g rb tv S lim T r R L):Now w q p g rb tv S lim T r R L w:=⟨tv,h,fun k h=> .inl h,Upd.refl _ _⟩
theorem Now.drew (s:Now w q p g rb tv S lim T r R L w'):Now w q p g rb tv S lim T r R L w'.drew:=by
  obtain ⟨tv',h,hi,u⟩:=s
  exact ⟨tv',h.drew,hi,u.drew⟩
theorem Now.c0 (s:Now w q p g rb tv S lim T r R L w'):w'.cell? ⟨q,0,none⟩=some (.pointer (some ⟨p,0,none⟩)):=by obtain ⟨_,h,_⟩:=s;exact h.c0
theorem Now.c1 (s:Now w q p g rb tv S lim T r R L w'):w'.cell? ⟨q,1,none⟩=some (.slice (some ⟨rb,0,none⟩) S S):=by obtain ⟨_,h,_⟩:=s;exact h.c1
theorem Now.c2 (s:Now w q p g rb tv S lim T r R L w'):w'.cell? ⟨q,2,none⟩=some (.int .i64 (lim:Int)):=by obtain ⟨_,h,_⟩:=s;exact h.c2
theorem Now.cr (s:Now w q p g rb tv S lim T r R L w') (j:Nat) (hj:j<S):w'.cell? ⟨rb,j,none⟩=some (.int .i64 ((R.getD j 0:Nat):Int)):=by obtain ⟨_,h,_⟩:=s;exact row_cell h.regs j (by rw [h.lenR];exact hj)
theorem Now.fr (s:Now w q p g rb tv S lim T r R L w') (j:Nat):w'.frozen? ⟨rb,j,none⟩=false:=by obtain ⟨_,h,_⟩:=s;exact h.regs.frozen j
theorem Now.len (s:Now w q p g rb tv S lim T r R L w'):R.length=S:=by obtain ⟨_,h,_⟩:=s;exact h.lenR
theorem Now.qr (s:Now w q p g rb tv S lim T r R L w'):q≠rb:=by obtain ⟨_,h,_⟩:=s;exact h.sep.qr
theorem Now.store (s:Now w q p g rb tv S lim T r R L w') (a n:Nat) (X:Int) (hX:X=(n:Int)):Now w q p g rb tv S lim T r (R.set a n) L (w'.setCell ⟨rb,a,none⟩ (.int .i64 X)):=by
  obtain ⟨tv',h,hi,u⟩:=s
  exact ⟨tv',h.region a n X hX,hi,u.trans ((upd_cell w' rb a _).mono (fun k hk=> .inr (.inr (.inr (.inl hk)))))⟩
theorem Now.next (s:Now w q p g rb tv S lim T r R L w') (hT:T.length≤1000):Calls Tryz.prog 136 #[.pointer (some ⟨q,0,none⟩)] w' fun e w2=>e= .returned (.bool (T.headD false))∧Now w q p g rb tv S lim (T.drop 1) r R L w2:=by
  obtain ⟨tv',h,hi,u⟩:=s
  refine (next_raw h hT).mono ?_
  rintro e w2 ⟨rfl,⟨tv2,h2,hi2⟩,u2⟩
  exact ⟨rfl,tv2,h2,fun k hk=>hi k (hi2 k hk),u.trans (u2.mono (fun k hk=> .inl hk))⟩
theorem Now.full (s:Now w q p g rb tv S lim T r R L w') (hr:r≤1000000000000):Calls Tryz.prog 137 #[.pointer (some ⟨q,0,none⟩)] w' fun e w2=>e= .returned (.tuple #[.int .i64 0, .int .i64 4])∧Now w q p g rb tv S lim T (r+1) R L w2:=by
  obtain ⟨tv',h,hi,u⟩:=s
  refine (full_raw h hr).mono ?_
  rintro e w2 ⟨rfl,h2,u2⟩
  exact ⟨rfl,tv',h2,hi,u.trans (u2.mono (fun k hk=> .inl hk))⟩
theorem Now.given (s:Now w q p g rb tv S lim T r R L w') (n:Nat) (hn:MarkMath.left L+n=S) (hS:S≤64):Calls Tryz.prog 37 #[.pointer (some ⟨q,0,none⟩)] w' fun e w2=>e= .returned (.int .i64 (n:Int))∧Now w q p g rb tv S lim T r R L w2:=by
  obtain ⟨tv',h,hi,u⟩:=s
  refine (given_raw h n hn hS).mono ?_
  rintro e w2 ⟨rfl,hb⟩
  exact ⟨rfl,tv',h.grew hb,hi,u.trans ((updFalseA hb).mono (fun k hk=>hk.elim))⟩
theorem Now.take (s:Now w q p g rb tv S lim T r R L w') (k:Int):Calls Tryz.prog 138 #[.pointer (some ⟨p,0,none⟩), .int .i64 k] w' fun e w2=>e= .returned (.tuple #[.int .i64 (takeA L k), .int .i64 (takeE L k)])∧Now w q p g rb tv S lim T r R (takeL L k) w2:=by
  obtain ⟨tv',h,hi,u⟩:=s
  refine (take_any h.marks k).mono ?_
  rintro e w2 ⟨rfl,hm,u2⟩
  exact ⟨rfl,tv',h.marked hm u2,hi,u.trans (u2.mono (fun k hk=> .inr (.inr (.inl hk))))⟩
theorem Now.free (s:Now w q p g rb tv S lim T r R L w') {a k:Nat} (ha:a≤1000) (hk:1≤k) (hk2:k≤1000) (hf:MarkMath.allAt L a k true):Calls Tryz.prog 256 #[.pointer (some ⟨p,0,none⟩), .int .i64 (a:Int), .int .i64 (k:Int)] w' fun e w2=>e= .returned (.int .i64 0)∧Now w q p g rb tv S lim T r R (MarkMath.setAt L a k false) w2:=by
  obtain ⟨tv',h,hi,u⟩:=s
  have hm:=free_any h.marks (a:Int) (k:Int) (wf_small a (by omega)) (wf_small k (by omega))
  rw [turnE_yes hk hf,turnL_yes hk hf] at hm
  refine hm.mono ?_
  rintro e w2 ⟨rfl,hm,u2⟩
  exact ⟨rfl,tv',h.marked hm u2,hi,u.trans (u2.mono (fun k hk=> .inr (.inr (.inl hk))))⟩
theorem Now.refuse (s:Now w q p g rb tv S lim T r R L w') (hT:T.length≤1000) {v:Value} {m:List Bool} (hv:Seq Elem.bools w' v m) (hm:T.length+m.length≤1000):
    Calls Tryz.prog 15 #[.pointer (some ⟨q,0,none⟩),v] w' fun e w2=>e= .returned (.int .i64 0)∧Now w q p g rb tv S lim (T++m) r R L w2:=by
  obtain ⟨tv',h,hi,u⟩:=s
  refine (refuse_raw h hT hv hm).mono ?_
  rintro e w2 ⟨rfl,⟨tv2,h2,hi2⟩,u2⟩
  refine ⟨rfl,tv2,h2,fun k hk=> ?_,u.step u2 (fun k hk=> ?_)⟩
  · rcases hi2 k hk with h|h
    · exact hi k h
    · exact .inr (Nat.le_trans u.size h)
  · rcases hk with hk|hk
    · exact .inl (.inl hk)
    · rcases hi k hk with h|h
      · exact .inl (.inr (.inr (.inr (.inr h))))
      · exact .inr h
theorem release_no (h:Raw w q p g rb tv S lim T r R L) (a:Int) (hS:S≤64) (hn: ∀j:Nat,a=(j:Int)→j<S→R.getD j 0=0):Calls Tryz.prog 228 #[.pointer (some ⟨q,0,none⟩), .int .i64 a] w fun e w'=>e= .returned (.int .i64 5)∧w=w':=by
  have c1:=h.c1
  by_cases h0:a<0
  · have t0:decide (a<0)=true:=decide_eq_true h0
    clear h hn h0
    go_enter Tryz.func228,Tryz.ntmps228
    go_wp2
    go_ret
    exact ⟨rfl,rfl⟩
  · have t0:decide (a<0)=false:=decide_eq_false h0
    obtain ⟨j,rfl⟩:=Int.eq_ofNat_of_zero_le (show 0≤a by omega)
    by_cases hj:S≤j
    · have t1:decide (S≤j)=true:=decide_eq_true hj
      have t2:decide ((S:Int)≤(j:Int))=true:=decide_eq_true (by omega)
      clear h hn h0
      go_enter Tryz.func228,Tryz.ntmps228
      go_wp2
      go_ret
      exact ⟨rfl,rfl⟩
    · have t1:decide (S≤j)=false:=decide_eq_false hj
      have t2:decide ((S:Int)≤(j:Int))=false:=decide_eq_false (by omega)
      have hcell:=row_cell h.regs j (by rw [h.lenR];omega)
      rw [hn j rfl (by omega)] at hcell
      have hjs:j<S:=by omega
      clear h hn h0 hj
      go_enter Tryz.func228,Tryz.ntmps228
      go_wp2
      go_ret
      exact ⟨rfl,rfl⟩
theorem release_yes (h:Raw w q p g rb tv S lim T r R L) (a n:Nat) (hS:S≤64) (hn:1≤n) (ha:a+n≤S) (hR:R.getD a 0=n) (hL:MarkMath.allAt L a n true):Calls Tryz.prog 228 #[.pointer (some ⟨q,0,none⟩), .int .i64 (a:Int)] w fun e w'=>
    e= .returned (.int .i64 0)∧Now w q p g rb tv S lim T r (R.set a 0) (MarkMath.setAt L a n false) w':=by
  have c0:=h.c0
  have c1:=h.c1
  have hcell:=row_cell h.regs a (by rw [h.lenR];omega)
  rw [hR] at hcell
  have hfr:w.frozen? ⟨rb,a,none⟩=false:=h.regs.frozen a
  have hqr:q≠rb:=h.sep.qr
  have t0:decide ((a:Int)<0)=false:=decide_eq_false (by omega)
  have t1:decide (S≤a)=false:=decide_eq_false (by omega)
  have t2:decide ((S:Int)≤(a:Int))=false:=decide_eq_false (by omega)
  have t3:((n:Int)==0)=false:=by rw [beq_eq_false_iff_ne];omega
  have has:a<S:=by omega
  have HN:Hid (Now w q p g rb tv S lim T r (R.set a 0) L (w.setCell ⟨rb,a,none⟩ (.int .i64 0))):=Lib.hid ((Now.start h).store a 0 0 rfl)
  have HF:=Lib.hid (fun w' (s:Now w q p g rb tv S lim T r (R.set a 0) L w')=>Now.free s (a:=a) (k:=n) (by omega) hn (by omega) hL)
  have c0':=HN.out.c0
  clear h hR hL hn ha hS
  go_enter Tryz.func228,Tryz.ntmps228
  go_wp2_with fail
  refine (HF.out _ HN.out).mono ?_;rintro e w2 ⟨rfl,hs⟩
  have ST:=Lib.hid hs
  clear hs
  go_wp2
  go_ret
  exact ⟨rfl,ST.out⟩
theorem reserve_out (h:Raw w q p g rb tv S lim T r R L) (n:Int) (hS:S≤64) (hn: ¬(1≤n∧n≤(S:Int))):Calls Tryz.prog 77 #[.pointer (some ⟨q,0,none⟩), .int .i64 n] w fun e w'=>e= .returned (.tuple #[.int .i64 0, .int .i64 2])∧w=w':=by
  have c1:=h.c1
  clear h
  by_cases h0:n<1
  · have t0:decide (n<1)=true:=decide_eq_true h0
    clear hn h0
    go_enter Tryz.func77,Tryz.ntmps77
    go_wp2
    go_ret2
    exact ⟨rfl,rfl⟩
  · have t0:decide (n<1)=false:=decide_eq_false h0
    have t1:decide ((S:Int)<n)=true:=decide_eq_true (by omega)
    clear hn h0
    go_enter Tryz.func77,Tryz.ntmps77
    go_wp2
    go_ret2
    exact ⟨rfl,rfl⟩
theorem reserve_over (h:Raw w q p g rb tv S lim T r R L) (n:Nat) (h1:1≤n) (h2:n≤S) (hS:S≤64) (hlim:lim≤S) (hT:T.length≤1000) (hr:r≤1000000000000) (ht:T.headD false=false) (m:Nat) (hm:MarkMath.left L+m=S) (hl:lim<m+n):Calls Tryz.prog 77 #[.pointer (some ⟨q,0,none⟩), .int .i64 (n:Int)] w fun e w'=>
    e= .returned (.tuple #[.int .i64 0, .int .i64 4])∧Now w q p g rb tv S lim (T.drop 1) (r+1) R L w':=by
  have c1:=h.c1
  have d2:=h.c2
  have t0:decide ((n:Int)<1)=false:=decide_eq_false (by omega)
  have t1:decide (S<n)=false:=decide_eq_false (by omega)
  have t2:decide ((lim:Int)-(m:Int)<(n:Int))=true:=decide_eq_true (by omega)
  have hm2:m≤64:=by omega
  have hwr:IntKind.i64.wrap ((lim:Int)-(m:Int))=(lim:Int)-(m:Int):=IntWalk.i64_in _ ⟨by omega,by omega⟩
  have HN:=Lib.hid (fun w' (s:Now w q p g rb tv S lim T r R L w')=>(s.next hT).mono (R':=fun e w2=>e= .returned (.bool false)∧Now w q p g rb tv S lim (T.drop 1) r R L w2) fun e w2 k=>⟨by rw [k.1,ht],k.2⟩)
  have HG:=Lib.hid (fun w' (s:Now w q p g rb tv S lim (T.drop 1) r R L w')=>s.given m hm hS)
  have HF:=Lib.hid (fun w' (s:Now w q p g rb tv S lim (T.drop 1) r R L w')=>s.full hr)
  have ST:=Lib.hid (Now.start h)
  clear h ht hT hm hl
  go_enter Tryz.func77,Tryz.ntmps77
  go_wp2_with fail
  go_region_held3 (fun w'=>w'.cell? ⟨q,2,none⟩=some (.int .i64 (lim:Int))) (first|go_keep|exact d2)
    (first
      |(go_at_call 136;(first|(with_reducible refine (HN.out _ ST.out.drew).mono ?_)|(with_reducible refine (HN.out _ ST.out).mono ?_));rintro e w5 ⟨rfl,hst⟩;have d2:=hst.c2;have ST:=Lib.hid hst;clear hst)
      |(go_at_call 37;(first|(with_reducible refine (HG.out _ ST.out.drew).mono ?_)|(with_reducible refine (HG.out _ ST.out).mono ?_));rintro e w5 ⟨rfl,hst⟩;have d2:=hst.c2;have ST:=Lib.hid hst;clear hst))
  go_wp2_with fail
  refine (HF.out _ ST.out).mono ?_;rintro e w2 ⟨rfl,hs⟩
  have ST2:=Lib.hid hs
  clear hs
  go_wp2
  go_ret2
  exact ⟨rfl,ST2.out⟩
theorem reserve_full (h:Raw w q p g rb tv S lim T r R L) (n:Nat) (h1:1≤n) (h2:n≤S) (hS:S≤64) (hlim:lim≤S) (hT:T.length≤1000) (hr:r≤1000000000000) (ht:T.headD false=false) (m:Nat) (hm:MarkMath.left L+m=S) (hl:m+n≤lim)
    (hlen:L.length=S) (hlow:MarkMath.low L n=none):Calls Tryz.prog 77 #[.pointer (some ⟨q,0,none⟩), .int .i64 (n:Int)] w fun e w'=>
    e= .returned (.tuple #[.int .i64 0, .int .i64 4])∧Now w q p g rb tv S lim (T.drop 1) (r+1) R L w':=by
  have c1:=h.c1
  have d0:=h.c0
  have d2:=h.c2
  have t0:decide ((n:Int)<1)=false:=decide_eq_false (by omega)
  have t1:decide (S<n)=false:=decide_eq_false (by omega)
  have t2:decide ((lim:Int)-(m:Int)<(n:Int))=false:=decide_eq_false (by omega)
  have hm2:m≤64:=by omega
  have hwr:IntKind.i64.wrap ((lim:Int)-(m:Int))=(lim:Int)-(m:Int):=IntWalk.i64_in _ ⟨by omega,by omega⟩
  obtain ⟨e1,e2,e3⟩:=take_full (L:=L) h1 (by omega) hlow
  have HN:=Lib.hid (fun w' (s:Now w q p g rb tv S lim T r R L w')=>(s.next hT).mono (R':=fun e w2=>e= .returned (.bool false)∧Now w q p g rb tv S lim (T.drop 1) r R L w2) fun e w2 k=>⟨by rw [k.1,ht],k.2⟩)
  have HG:=Lib.hid (fun w' (s:Now w q p g rb tv S lim (T.drop 1) r R L w')=>s.given m hm hS)
  have HF:=Lib.hid (fun w' (s:Now w q p g rb tv S lim (T.drop 1) r R L w')=>s.full hr)
  have HT:Hid (∀w',Now w q p g rb tv S lim (T.drop 1) r R L w'→Calls Tryz.prog 138 #[.pointer (some ⟨p,0,none⟩), .int .i64 (n:Int)] w' fun e w2=>e= .returned (.tuple #[.int .i64 0, .int .i64 4])∧Now w q p g rb tv S lim (T.drop 1) r R L w2):=
    Lib.hid fun w' s=>by have:=s.take (n:Int);rwa [e1,e2,e3] at this
  have ST:=Lib.hid (Now.start h)
  clear h ht hT hm hl e1 e2 e3 hlow hlen
  go_enter Tryz.func77,Tryz.ntmps77
  go_wp2_with fail
  go_region_held3 (fun w'=>w'.cell? ⟨q,2,none⟩=some (.int .i64 (lim:Int))) (first|go_keep|exact d2)
    (first
      |(go_at_call 136;(first|(with_reducible refine (HN.out _ ST.out.drew).mono ?_)|(with_reducible refine (HN.out _ ST.out).mono ?_));rintro e w5 ⟨rfl,hst⟩;have d2:=hst.c2;have ST:=Lib.hid hst;clear hst)
      |(go_at_call 37;(first|(with_reducible refine (HG.out _ ST.out.drew).mono ?_)|(with_reducible refine (HG.out _ ST.out).mono ?_));rintro e w5 ⟨rfl,hst⟩;have d2:=hst.c2;have ST:=Lib.hid hst;clear hst))
  have d0:=ST.out.c0
  go_wp2_with fail
  refine (HT.out _ ST.out).mono ?_;rintro e w2 ⟨rfl,hs⟩
  have ST2:=Lib.hid hs
  clear hs
  go_wp2_with fail
  refine (HF.out _ ST2.out).mono ?_;rintro e w3 ⟨rfl,hs⟩
  have ST3:=Lib.hid hs
  clear hs
  go_wp2
  go_ret2
  exact ⟨rfl,ST3.out⟩
theorem reserve_yes (h:Raw w q p g rb tv S lim T r R L) (n:Nat) (h1:1≤n) (h2:n≤S) (hS:S≤64) (hlim:lim≤S) (hT:T.length≤1000) (ht:T.headD false=false) (m:Nat) (hm:MarkMath.left L+m=S) (hl:m+n≤lim)
    (hlen:L.length=S) (a:Nat) (ha:a+n≤S) (hlow:MarkMath.low L n=some a):Calls Tryz.prog 77 #[.pointer (some ⟨q,0,none⟩), .int .i64 (n:Int)] w fun e w'=>
    e= .returned (.tuple #[.int .i64 (a:Int), .int .i64 0])∧Now w q p g rb tv S lim (T.drop 1) r (R.set a n) (MarkMath.setAt L a n true) w':=by
  have c1:=h.c1
  have d0:=h.c0
  have d2:=h.c2
  have t0:decide ((n:Int)<1)=false:=decide_eq_false (by omega)
  have t1:decide (S<n)=false:=decide_eq_false (by omega)
  have t2:decide ((lim:Int)-(m:Int)<(n:Int))=false:=decide_eq_false (by omega)
  have hm2:m≤64:=by omega
  have hwr:IntKind.i64.wrap ((lim:Int)-(m:Int))=(lim:Int)-(m:Int):=IntWalk.i64_in _ ⟨by omega,by omega⟩
  have has:a<S:=by omega
  obtain ⟨e1,e2,e3⟩:=take_yes (L:=L) h1 (by omega) hlow
  have HN:=Lib.hid (fun w' (s:Now w q p g rb tv S lim T r R L w')=>(s.next hT).mono (R':=fun e w2=>e= .returned (.bool false)∧Now w q p g rb tv S lim (T.drop 1) r R L w2) fun e w2 k=>⟨by rw [k.1,ht],k.2⟩)
  have HG:=Lib.hid (fun w' (s:Now w q p g rb tv S lim (T.drop 1) r R L w')=>s.given m hm hS)
  have HT:Hid (∀w',Now w q p g rb tv S lim (T.drop 1) r R L w'→Calls Tryz.prog 138 #[.pointer (some ⟨p,0,none⟩), .int .i64 (n:Int)] w' fun e w2=>e= .returned (.tuple #[.int .i64 (a:Int), .int .i64 0])∧Now w q p g rb tv S lim (T.drop 1) r R (MarkMath.setAt L a n true) w2):=
    Lib.hid fun w' s=>by have:=s.take (n:Int);rwa [e1,e2,e3] at this
  have ST:=Lib.hid (Now.start h)
  clear h ht hT hm hl e1 e2 e3 hlow hlen ha
  go_enter Tryz.func77,Tryz.ntmps77
  go_wp2_with fail
  go_region_held3 (fun w'=>w'.cell? ⟨q,2,none⟩=some (.int .i64 (lim:Int))) (first|go_keep|exact d2)
    (first
      |(go_at_call 136;(first|(with_reducible refine (HN.out _ ST.out.drew).mono ?_)|(with_reducible refine (HN.out _ ST.out).mono ?_));rintro e w5 ⟨rfl,hst⟩;have d2:=hst.c2;have ST:=Lib.hid hst;clear hst)
      |(go_at_call 37;(first|(with_reducible refine (HG.out _ ST.out.drew).mono ?_)|(with_reducible refine (HG.out _ ST.out).mono ?_));rintro e w5 ⟨rfl,hst⟩;have d2:=hst.c2;have ST:=Lib.hid hst;clear hst))
  have d0:=ST.out.c0
  go_wp2_with fail
  refine (HT.out _ ST.out).mono ?_;rintro e w2 ⟨rfl,hs⟩
  have f1:=hs.c1
  have hcell:=hs.cr a has
  have hfr:=hs.fr a
  obtain ⟨old,hold⟩: ∃old,R.getD a 0=old:=⟨_,rfl⟩
  rw [hold] at hcell
  have ST2:=Lib.hid hs
  clear hs hold
  go_wp2
  go_ret2
  exact ⟨rfl,ST2.out.store a n _ rfl⟩
end
end Go.Proofs.YtippfeplogkaiaaGreatDoor
namespace Go.Proofs.YtippfeplogkaiaaGreatDoor
open Go.RowKit
open Mk
set_option linter.unusedVariables false
set_option maxRecDepth 100000
section
variable {w w':World} {q p g rb:Nat} {tv:Value} {S lim:Nat} {T:List Bool} {r:Nat} {R:List Nat} {L:List Bool}
set_option linter.unusedSimpArgs false in
set_option maxHeartbeats 400000 in
theorem reserve_told (h:Raw w q p g rb tv S lim T r R L) (n:Nat) (h1:1≤n) (h2:n≤S) (hS:S≤64) (hT:T.length≤1000) (hr:r≤1000000000000) (ht:T.headD false=true):Calls Tryz.prog 77 #[.pointer (some ⟨q,0,none⟩), .int .i64 (n:Int)] w fun e w'=>
    e= .returned (.tuple #[.int .i64 0, .int .i64 4])∧Now w q p g rb tv S lim (T.drop 1) (r+1) R L w':=by
  have c1:=h.c1
  have d2:=h.c2
  have t0:decide ((n:Int)<1)=false:=decide_eq_false (by omega)
  have t1:decide (S<n)=false:=decide_eq_false (by omega)
  have HN:=Lib.hid (fun w' (s:Now w q p g rb tv S lim T r R L w')=>(s.next hT).mono (R':=fun e w2=>e= .returned (.bool true)∧Now w q p g rb tv S lim (T.drop 1) r R L w2) fun e w2 k=>⟨by rw [k.1,ht],k.2⟩)
  have HF:=Lib.hid (fun w' (s:Now w q p g rb tv S lim (T.drop 1) r R L w')=>s.full hr)
  have ST:=Lib.hid (Now.start h)
  clear h ht hT
  go_enter Tryz.func77,Tryz.ntmps77
  go_wp2_with fail
  refine wp_region_held_drew (S:=fun _=>True) (by kernel_rfl) trivial (fun hHeld=> ?_)
  refine wpAnyH_take (i:=0) (oi:={dst:=some 22,op:=Op.move (Operand.tmp 0),type:=32,pos:= "arena.go:67",after:= #[],guard:=none}) (v:= .pointer (some ⟨q,0,none⟩)) rfl (by kernel_rfl) (by kernel_rfl) (by kernel_rfl) (fun _ _ _ h=>h) (Or.inl ⟨by rfl,by intro w hSw;go_simp⟩) trivial ?_
  (try simp only [Act.put,List.setIfInBounds_toArray,List.set_cons_zero,List.set_cons_succ])
  refine wpAnyH_ready (rs:= [1]) (by kernel_rfl) (by simp) ?_
  refine AllReadyH.cons (o:={dst:=some 23,op:=Op.call {callee:=Callee.value (Operand.func 136),args:= #[Operand.tmp 22],argTypes:= #[32]},type:=4,pos:= "arena.go:67",after:= #[{on:=0,ground:=Ground.data}],guard:=none}) rfl (fun K hK=> ?_) AllReadyH.nil
  go_simp
  refine (HN.out _ ST.out.drew).mono ?_
  rintro e w5 ⟨rfl,hst⟩
  have ST:=Lib.hid hst
  clear hst
  go_wp2_with fail
  refine hK.out _ _ trivial (fun hHeld=> ?_)
  clear hK K
  (try simp only [Act.put,List.setIfInBounds_toArray,List.set_cons_zero,List.set_cons_succ])
  refine wpAnyH_take (i:=2) (oi:={dst:=some 24,op:=Op.move (Operand.tmp 23),type:=4,pos:= "arena.go:67",after:= #[{on:=1,ground:=Ground.data},{on:=1,ground:=Ground.chain}],guard:=none}) (v:= .bool true) rfl (by kernel_rfl) (by kernel_rfl) (by kernel_rfl) (fun _ _ _ h=>h) (Or.inl ⟨by rfl,by intro w hSw;go_simp⟩) trivial ?_
  (try simp only [Act.put,List.setIfInBounds_toArray,List.set_cons_zero,List.set_cons_succ])
  refine wpAnyH_take (i:=3) (oi:={dst:=some 25,op:=Op.move (Operand.tmp 1),type:=3,pos:= "arena.go:67",after:= #[{on:=2,ground:=Ground.guard}],guard:=some (2,false)}) (v:=undef) rfl (by kernel_rfl) (by kernel_rfl) (by kernel_rfl) (fun _ _ _ h=>h) (Or.inr ⟨by rfl,rfl⟩) trivial ?_
  (try simp only [Act.put,List.setIfInBounds_toArray,List.set_cons_zero,List.set_cons_succ])
  refine wpAnyH_take (i:=4) (oi:={dst:=some 26,op:=Op.move (Operand.tmp 0),type:=32,pos:= "arena.go:67",after:= #[{on:=2,ground:=Ground.guard}],guard:=some (2,false)}) (v:=undef) rfl (by kernel_rfl) (by kernel_rfl) (by kernel_rfl) (fun _ _ _ h=>h) (Or.inr ⟨by rfl,rfl⟩) trivial ?_
  (try simp only [Act.put,List.setIfInBounds_toArray,List.set_cons_zero,List.set_cons_succ])
  refine wpAnyH_take (i:=5) (oi:={dst:=some 27,op:=Op.nilCheck (Operand.tmp 26),type:=0,pos:= "arena.go:67",after:= #[{on:=4,ground:=Ground.data},{on:=2,ground:=Ground.guard}],guard:=some (2,false)}) (v:=undef) rfl (by kernel_rfl) (by kernel_rfl) (by kernel_rfl) (fun _ _ _ h=>h) (Or.inr ⟨by rfl,rfl⟩) trivial ?_
  (try simp only [Act.put,List.setIfInBounds_toArray,List.set_cons_zero,List.set_cons_succ])
  refine wpAnyH_take (i:=6) (oi:={dst:=some 28,op:=Op.fieldAddr 122 (Operand.tmp 27) 1,type:=0,pos:= "arena.go:67",after:= #[{on:=5,ground:=Ground.data},{on:=2,ground:=Ground.guard}],guard:=some (2,false)}) (v:=undef) rfl (by kernel_rfl) (by kernel_rfl) (by kernel_rfl) (fun _ _ _ h=>h) (Or.inr ⟨by rfl,rfl⟩) trivial ?_
  (try simp only [Act.put,List.setIfInBounds_toArray,List.set_cons_zero,List.set_cons_succ])
  refine wpAnyH_take (i:=7) (oi:={dst:=some 29,op:=Op.load 3 (Operand.tmp 28),type:=3,pos:= "arena.go:67",after:= #[{on:=6,ground:=Ground.data},{on:=2,ground:=Ground.guard}],guard:=some (2,false)}) (v:=undef) rfl (by kernel_rfl) (by kernel_rfl) (by kernel_rfl) (fun _ _ _ h=>h) (Or.inr ⟨by rfl,rfl⟩) trivial ?_
  (try simp only [Act.put,List.setIfInBounds_toArray,List.set_cons_zero,List.set_cons_succ])
  refine wpAnyH_take (i:=8) (oi:={dst:=some 30,op:=Op.move (Operand.tmp 0),type:=32,pos:= "arena.go:67",after:= #[{on:=2,ground:=Ground.guard}],guard:=some (2,false)}) (v:=undef) rfl (by kernel_rfl) (by kernel_rfl) (by kernel_rfl) (fun _ _ _ h=>h) (Or.inr ⟨by rfl,rfl⟩) trivial ?_
  (try simp only [Act.put,List.setIfInBounds_toArray,List.set_cons_zero,List.set_cons_succ])
  refine wpAnyH_take (i:=9) (oi:={dst:=some 31,op:=Op.call {callee:=Callee.value (Operand.func 37),args:= #[Operand.tmp 30],argTypes:= #[32]},type:=3,pos:= "arena.go:67",after:= #[{on:=8,ground:=Ground.data},{on:=2,ground:=Ground.chain},{on:=2,ground:=Ground.guard}],guard:=some (2,false)}) (v:=undef) rfl (by kernel_rfl) (by kernel_rfl) (by kernel_rfl) (fun _ _ _ h=>h) (Or.inr ⟨by rfl,rfl⟩) trivial ?_
  (try simp only [Act.put,List.setIfInBounds_toArray,List.set_cons_zero,List.set_cons_succ])
  refine wpAnyH_take (i:=10) (oi:={dst:=some 32,op:=Op.binOp BinOp.sub 3 (Operand.tmp 29) (Operand.tmp 31) 3,type:=3,pos:= "arena.go:67",after:= #[{on:=7,ground:=Ground.data},{on:=9,ground:=Ground.data},{on:=2,ground:=Ground.guard}],guard:=some (2,false)}) (v:=undef) rfl (by kernel_rfl) (by kernel_rfl) (by kernel_rfl) (fun _ _ _ h=>h) (Or.inr ⟨by rfl,rfl⟩) trivial ?_
  (try simp only [Act.put,List.setIfInBounds_toArray,List.set_cons_zero,List.set_cons_succ])
  refine wpAnyH_take (i:=11) (oi:={dst:=some 33,op:=Op.binOp BinOp.gtr 3 (Operand.tmp 25) (Operand.tmp 32) 3,type:=4,pos:= "arena.go:67",after:= #[{on:=3,ground:=Ground.data},{on:=10,ground:=Ground.data},{on:=2,ground:=Ground.guard}],guard:=some (2,false)}) (v:=undef) rfl (by kernel_rfl) (by kernel_rfl) (by kernel_rfl) (fun _ _ _ h=>h) (Or.inr ⟨by rfl,rfl⟩) trivial ?_
  (try simp only [Act.put,List.setIfInBounds_toArray,List.set_cons_zero,List.set_cons_succ])
  refine wpAnyH_take (i:=12) (oi:={dst:=some 34,op:=Op.pick (Operand.tmp 24) (Operand.const (Value.bool true)) (Operand.tmp 33),type:=4,pos:= "arena.go:67",after:= #[{on:=2,ground:=Ground.data},{on:=11,ground:=Ground.data}],guard:=none}) (v:= .bool true) rfl (by kernel_rfl) (by kernel_rfl) (by kernel_rfl) (fun _ _ _ h=>h) (Or.inl ⟨by rfl,by intro w hSw;go_simp⟩) trivial ?_
  (try simp only [Act.put,List.setIfInBounds_toArray,List.set_cons_zero,List.set_cons_succ])
  refine wpAnyH_done (by kernel_rfl) ?_ _
  go_wp2_with fail
  refine (HF.out _ ST.out).mono ?_;rintro e w2 ⟨rfl,hs⟩
  have ST2:=Lib.hid hs
  clear hs
  go_wp2
  go_ret2
  exact ⟨rfl,ST2.out⟩
end
end Go.Proofs.YtippfeplogkaiaaGreatDoor
namespace Go.Proofs.YtippfeplogkaiaaGreatDoor
open Go.RowKit ArenaMath
open Mk
set_option linter.unusedVariables false
set_option maxRecDepth 100000
def IsArena (w:World) (q:Nat) (own:Nat→Prop) (s:St):Prop:=
  ∃p g rb tv R L,Raw w q p g rb tv s.S s.lim s.T s.r R L∧Fits s.S s.l R L∧ArenaMath.Good s∧ ∀k,own k↔Mine q p g rb tv k
def Became (w:World) (q:Nat) (own:Nat→Prop) (s:St) (w':World):Prop:=
  (∃own',IsArena w' q own' s∧ ∀k,own' k→own k∨w.heap.size≤k)∧Upd own w w'
theorem IsArena.good {w:World} {q:Nat} {own:Nat→Prop} {s:St} (h:IsArena w q own s):ArenaMath.Good s:=by obtain ⟨_,_,_,_,_,_,_,_,h,_⟩:=h;exact h
theorem IsArena.lt {w:World} {q:Nat} {own:Nat→Prop} {s:St} (h:IsArena w q own s) {k:Nat} (hk:own k):k<w.heap.size:=by
  obtain ⟨p,g,rb,tv,R,L,h,_,_,ho⟩:=h
  exact h.lt ((ho k).1 hk)
theorem IsArena.upd {S:Nat→Prop} {w w':World} {q:Nat} {own:Nat→Prop} {s:St} (h:IsArena w q own s) (u:Upd S w w') (hS: ∀k,own k→ ¬S k):IsArena w' q own s:=by
  obtain ⟨p,g,rb,tv,R,L,h,hf,hg,ho⟩:=h
  exact ⟨p,g,rb,tv,R,L,h.upd u (fun k hk=>hS k ((ho k).2 hk)),hf,hg,ho⟩
theorem IsArena.alloc {w:World} {q:Nat} {own:Nat→Prop} {s:St} (h:IsArena w q own s) (o:Obj):IsArena (w.alloc o) q own s:=h.upd ((Upd.refl (fun _=>False) w).alloc o) (fun _ _=>id)
theorem IsArena.drew {w:World} {q:Nat} {own:Nat→Prop} {s:St} (h:IsArena w q own s):IsArena w.drew q own s:=h.upd ((Upd.refl (fun _=>False) w).drew) (fun _ _=>id)
theorem IsArena.grew {w w':World} {q:Nat} {own:Nat→Prop} {s:St} (h:IsArena w q own s) (hb:Below w.heap.size w w'):IsArena w' q own s:=h.upd (updFalseA hb) (fun _ _=>id)
theorem Became.same {w:World} {q:Nat} {own:Nat→Prop} {s:St} (h:IsArena w q own s):Became w q own s w:=⟨⟨own,h,fun k h=> .inl h⟩,Upd.refl _ _⟩
theorem Became.of {w w':World} {q p g rb:Nat} {tv:Value} {R:List Nat} {L:List Bool} {own:Nat→Prop} {s:St} (ho: ∀k,own k↔Mine q p g rb tv k)
    (h:Now w q p g rb tv s.S s.lim s.T s.r R L w') (hf:Fits s.S s.l R L) (hg:ArenaMath.Good s):Became w q own s w':=by
  obtain ⟨tv',hr,hi,u⟩:=h
  refine ⟨⟨Mine q p g rb tv',⟨p,g,rb,tv',R,L,hr,hf,hg,fun k=>Iff.rfl⟩,fun k hk=> ?_⟩,u.mono (fun k hk=>(ho k).2 hk)⟩
  rcases hk with hk|hk|hk|hk|hk
  · exact .inl ((ho k).2 (.inl hk))
  · exact .inl ((ho k).2 (.inr (.inl hk)))
  · exact .inl ((ho k).2 (.inr (.inr (.inl hk))))
  · exact .inl ((ho k).2 (.inr (.inr (.inr (.inl hk)))))
  · rcases hi k hk with h|h
    · exact .inl ((ho k).2 (.inr (.inr (.inr (.inr h)))))
    · exact .inr h
theorem isArena_new {w w':World} {S lim:Nat} {e:Ending} (h1:1≤S) (h2:S≤64) (h3:lim≤S) (h:NewOut w S lim e w'):
    ∃q own,e= .returned (.tuple #[.pointer (some ⟨q,0,none⟩), .int .i64 0])∧IsArena w' q own ⟨S,lim, [], [],0⟩∧(∀k,own k→w.heap.size≤k)∧Upd (fun _=>False) w w':=by
  obtain ⟨q,p,g,rb,rfl,hr,hn,hu⟩:=h
  exact ⟨q,Mine q p g rb (.slice none 0 0),rfl,⟨p,g,rb,_,_,_,hr,Fits.new S,⟨h1,h2,h3,Ok.nil S,by simp [total],by simp⟩,fun k=>Iff.rfl⟩,hn,hu⟩
section
variable {w:World} {q:Nat} {own:Nat→Prop} {s:St}
theorem refused_any (h:IsArena w q own s):Calls Tryz.prog 32 #[.pointer (some ⟨q,0,none⟩)] w fun e w'=>e= .returned (.int .i64 (s.r:Int))∧w=w':=by
  obtain ⟨p,g,rb,tv,R,L,h,_,_,_⟩:=h
  exact refused_raw h
theorem given_any (h:IsArena w q own s):Calls Tryz.prog 37 #[.pointer (some ⟨q,0,none⟩)] w fun e w'=>e= .returned (.int .i64 (total s.l:Int))∧Below w.heap.size w w':=by
  obtain ⟨p,g,rb,tv,R,L,h,hf,hg,_⟩:=h
  exact given_raw h (total s.l) hf.left hg.S2
theorem regions_any (h:IsArena w q own s):Calls Tryz.prog 166 #[.pointer (some ⟨q,0,none⟩)] w fun e w'=> ∃v,e= .returned v∧Vec Elem.pairs w' v s.l∧(∀b,In v b→w.heap.size≤b)∧Below w.heap.size w w':=by
  obtain ⟨p,g,rb,tv,R,L,h,hf,hg,_⟩:=h
  exact regions_raw h hf hg.S2
theorem refuse_any (h:IsArena w q own s) {v:Value} {m:List Bool} (hv:Seq Elem.bools w v m):
    Calls Tryz.prog 15 #[.pointer (some ⟨q,0,none⟩),v] w fun e w'=>e= .returned (.int .i64 (refuse s m).1)∧Became w q own (refuse s m).2 w':=by
  have hA:=h
  obtain ⟨p,g,rb,tv,R,L,h,hf,hg,ho⟩:=h
  by_cases hm:1000<s.T.length+m.length
  · refine (refuse_raw_full h hg.told hv hm).mono ?_
    rintro e w' ⟨rfl,rfl⟩
    unfold refuse
    rw [if_pos hm]
    exact ⟨rfl,Became.same hA⟩
  · have:=good_refuse hg m
    unfold refuse at this⊢
    rw [if_neg hm] at this⊢
    refine ((Now.start h).refuse hg.told hv (by omega)).mono ?_
    rintro e w' ⟨rfl,hn⟩
    exact ⟨rfl,Became.of (s:={s with T:=s.T++m}) ho hn hf this⟩
theorem release_any (h:IsArena w q own s) (a:Int):
    Calls Tryz.prog 228 #[.pointer (some ⟨q,0,none⟩), .int .i64 a] w fun e w'=>e= .returned (.int .i64 (release s a).1)∧Became w q own (release s a).2 w':=by
  have hA:=h
  obtain ⟨p,g,rb,tv,R,L,h,hf,hg,ho⟩:=h
  by_cases hh:has s a
  · have hgd:=good_release hg a
    unfold release at hgd⊢
    rw [if_pos hh] at hgd⊢
    obtain ⟨h0,⟨x1,n⟩,hx,e⟩:=hh
    obtain ⟨a,rfl⟩:=Int.eq_ofNat_of_zero_le h0
    have hxa:x1=a:=by simpa using e
    subst hxa
    have hb:=hf.ok.2 _ hx
    simp only at hb
    refine (release_yes h x1 n hg.S2 hb.1 hb.2 ((hf.reg x1 n hb.1).2 hx) (hf.taken hx)).mono ?_
    rintro e w' ⟨rfl,hn⟩
    exact ⟨rfl,Became.of (s:={s with l:=del s.l x1}) ho hn (hf.del hx) hgd⟩
  · have hno: ∀j:Nat,a=(j:Int)→j<s.S→R.getD j 0=0:=by
      rintro j rfl hj
      rcases Nat.eq_zero_or_pos (R.getD j 0) with h0|h0
      · exact h0
      · exact absurd ⟨by omega,(j,R.getD j 0),(hf.reg j _ h0).1 rfl,by simp⟩ hh
    refine (release_no h a hg.S2 hno).mono ?_
    rintro e w' ⟨rfl,rfl⟩
    unfold release
    rw [if_neg hh]
    exact ⟨rfl,Became.same hA⟩
theorem reserve_any (h:IsArena w q own s) (n:Int) (hr:s.r≤1000000000000):
    Calls Tryz.prog 77 #[.pointer (some ⟨q,0,none⟩), .int .i64 n] w fun e w'=>e= .returned (.tuple #[.int .i64 (reserve s n).1, .int .i64 (reserve s n).2.1])∧Became w q own (reserve s n).2.2 w':=by
  have hA:=h
  obtain ⟨p,g,rb,tv,R,L,h,hf,hg,ho⟩:=h
  by_cases hfar:far s n
  · rw [reserve_far hfar]
    refine (reserve_out h n hg.S2 hfar).mono ?_
    rintro e w' ⟨rfl,rfl⟩
    exact ⟨rfl,Became.same hA⟩
  · have hn:1≤n∧n≤(s.S:Int):=Decidable.not_not.1 hfar
    obtain ⟨k,rfl⟩:=Int.eq_ofNat_of_zero_le (show 0≤n by omega)
    have h1:1≤k:=by omega
    have h2:k≤s.S:=by omega
    have hleft:=hf.left
    by_cases ht:s.T.headD false=true
    · rw [reserve_no h1 h2 (.inl ht)]
      refine (reserve_told h k h1 h2 hg.S2 hg.told hr ht).mono ?_
      rintro e w' ⟨rfl,hn⟩
      exact ⟨rfl,Became.of (s:=s.no) ho hn hf hg.no⟩
    · have ht:s.T.headD false=false:=by simpa using ht
      by_cases hl:s.lim<total s.l+k
      · rw [reserve_no h1 h2 (.inr hl)]
        refine (reserve_over h k h1 h2 hg.S2 hg.lim hg.told hr ht (total s.l) hleft (by omega)).mono ?_
        rintro e w' ⟨rfl,hn⟩
        exact ⟨rfl,Became.of (s:=s.no) ho hn hf hg.no⟩
      · cases hs:spot s.S s.l k with
        | none=>
          rw [ArenaMath.reserve_none h1 h2 hs]
          refine (reserve_full h k h1 h2 hg.S2 hg.lim hg.told hr ht (total s.l) hleft (by omega) hf.lenL (by rw [hf.low h1,hs])).mono ?_
          rintro e w' ⟨rfl,hn⟩
          exact ⟨rfl,Became.of (s:=s.no) ho hn hf hg.no⟩
        | some a=>
          obtain ⟨g1,g2,g3⟩:=spot_some hs
          rw [ArenaMath.reserve_some h1 h2 ht (by omega) hs]
          refine (reserve_yes h k h1 h2 hg.S2 hg.lim hg.told ht (total s.l) hleft (by omega) hf.lenL a g1 (by rw [hf.low h1,hs])).mono ?_
          rintro e w' ⟨rfl,hn⟩
          exact ⟨rfl,Became.of (s:=s.give a k) ho hn (hf.put h1 g1 g2) (hg.give h1 (by omega) hs)⟩
end
def Lives (w0:World) (q:Nat) (s:St) (w':World):Prop:= ∃own,IsArena w' q own s∧(∀k,own k→w0.heap.size≤k)∧Below w0.heap.size w0 w'
section
variable {w0 w w':World} {q:Nat} {s s':St}
theorem Lives.good (h:Lives w0 q s w):ArenaMath.Good s:=by obtain ⟨_,h,_⟩:=h;exact h.good
theorem Lives.below (h:Lives w0 q s w):Below w0.heap.size w0 w:=by obtain ⟨_,_,_,h⟩:=h;exact h
theorem Lives.size (h:Lives w0 q s w):w0.heap.size≤w.heap.size:=h.below.size
theorem Lives.drew (h:Lives w0 q s w):Lives w0 q s w.drew:=by obtain ⟨own,h,ho,hb⟩:=h;exact ⟨own,h.drew,ho,hb.drew⟩
theorem Lives.alloc (h:Lives w0 q s w) (o:Obj):Lives w0 q s (w.alloc o):=by obtain ⟨own,h,ho,hb⟩:=h;exact ⟨own,h.alloc o,ho,hb.alloc hb.size o⟩
theorem Lives.grew (h:Lives w0 q s w) (k:Below w.heap.size w w'):Lives w0 q s w':=by obtain ⟨own,h,ho,hb⟩:=h;exact ⟨own,h.grew k,ho,hb.trans (k.mono hb.size)⟩
theorem Lives.start {own:Nat→Prop} (h:IsArena w q own s) (ho: ∀k,own k→w0.heap.size≤k) (hb:Below w0.heap.size w0 w):Lives w0 q s w:=⟨own,h,ho,hb⟩
theorem Lives.refused (h:Lives w0 q s w):Calls Tryz.prog 32 #[.pointer (some ⟨q,0,none⟩)] w fun e w'=>e= .returned (.int .i64 (s.r:Int))∧w=w':=by obtain ⟨own,h,ho,hb⟩:=h;exact refused_any h
theorem Lives.given (h:Lives w0 q s w):Calls Tryz.prog 37 #[.pointer (some ⟨q,0,none⟩)] w fun e w'=>e= .returned (.int .i64 (total s.l:Int))∧Lives w0 q s w':=by
  have hL:=h
  obtain ⟨own,h,ho,hb⟩:=h
  exact (given_any h).mono fun e w' k=>⟨k.1,hL.grew k.2⟩
theorem Lives.regions (h:Lives w0 q s w):Calls Tryz.prog 166 #[.pointer (some ⟨q,0,none⟩)] w fun e w'=> ∃v,e= .returned v∧Vec Elem.pairs w' v s.l∧Lives w0 q s w':=by
  have hL:=h
  obtain ⟨own,h,ho,hb⟩:=h
  refine (regions_any h).mono ?_
  rintro e w' ⟨v,rfl,hv,_,k⟩
  exact ⟨v,rfl,hv,hL.grew k⟩
theorem Lives.became {own:Nat→Prop} (ho: ∀k,own k→w0.heap.size≤k) (hb:Below w0.heap.size w0 w) (h:Became w q own s' w'):Lives w0 q s' w':=by
  obtain ⟨⟨own',h,hi⟩,u⟩:=h
  refine ⟨own',h,fun k hk=> ?_,hb.trans (u.below ho hb.size)⟩
  rcases hi k hk with h|h
  · exact ho k h
  · exact Nat.le_trans hb.size h
theorem Lives.refuse (h:Lives w0 q s w) {v:Value} {m:List Bool} (hv:Seq Elem.bools w v m):Calls Tryz.prog 15 #[.pointer (some ⟨q,0,none⟩),v] w fun e w'=>e= .returned (.int .i64 (refuse s m).1)∧Lives w0 q (refuse s m).2 w':=by
  obtain ⟨own,h,ho,hb⟩:=h
  exact (refuse_any h hv).mono fun e w' k=>⟨k.1,Lives.became ho hb k.2⟩
theorem Lives.release (h:Lives w0 q s w) (a:Int):Calls Tryz.prog 228 #[.pointer (some ⟨q,0,none⟩), .int .i64 a] w fun e w'=>e= .returned (.int .i64 (release s a).1)∧Lives w0 q (release s a).2 w':=by
  obtain ⟨own,h,ho,hb⟩:=h
  exact (release_any h a).mono fun e w' k=>⟨k.1,Lives.became ho hb k.2⟩
theorem Lives.reserve (h:Lives w0 q s w) (n:Int) (hr:s.r≤1000000000000):Calls Tryz.prog 77 #[.pointer (some ⟨q,0,none⟩), .int .i64 n] w fun e w'=>e= .returned (.tuple #[.int .i64 (reserve s n).1, .int .i64 (reserve s n).2.1])∧Lives w0 q (reserve s n).2.2 w':=by
  obtain ⟨own,h,ho,hb⟩:=h
  exact (reserve_any h n hr).mono fun e w' k=>⟨k.1,Lives.became ho hb k.2⟩
end
theorem lives_new (S lim:Nat) (h1:1≤S) (h2:S≤64) (h3:lim≤S) {w0 w:World} (hb:Below w0.heap.size w0 w):Calls Tryz.prog 76 #[.int .i64 (S:Int), .int .i64 (lim:Int)] w fun e w'=>
    ∃q,e= .returned (.tuple #[.pointer (some ⟨q,0,none⟩), .int .i64 0])∧Lives w0 q ⟨S,lim, [], [],0⟩ w':=by
  refine (arena_new S lim h1 h2 h3 w).mono ?_
  intro e w' h
  obtain ⟨q,own,rfl,hA,ho,hu⟩:=isArena_new h1 h2 h3 h
  exact ⟨q,rfl,own,hA,fun k hk=>Nat.le_trans hb.size (ho k hk),hb.trans (below_false hu hb.size)⟩
end Go.Proofs.YtippfeplogkaiaaGreatDoor
