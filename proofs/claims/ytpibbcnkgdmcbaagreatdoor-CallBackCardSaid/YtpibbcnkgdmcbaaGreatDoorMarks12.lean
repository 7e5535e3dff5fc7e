/- Marks12: texts of layers below, joined (Bools Mark1 RowIt Mark3 Mark4). -/
import Derived.Test.YtpibbcnkgdmcbaaGreatDoorBlk
import Derived.Test.YtpibbcnkgdmcbaaGreatDoorMarkMath
import Derived.Test.YtpibbcnkgdmcbaaGreatDoorRows
import Derived.WalkKit
import Derived.WalkSpells
import Derived.WalkLawsBesides
import Derived.Outline
import Derived.Lib.Hide
import Derived.RangeFuncNested
import Derived.RangeFuncBound
import Derived.RangeFuncCalls
import Derived.RangeFuncLeaves
import Derived.RangeFuncBox
import Derived.Shelf.Abstract
import Derived.Shelf.RegionOpen
import Derived.OwnWalkIn
import Derived.TacticsInMore
import Derived.LoopNIn
import Derived.LoopIn
import Derived.Test.YtpibbcnkgdmcbaaGreatDoorInts
import Derived.Deep.QuietTactic
import Derived.BigQuiet
set_option linter.unusedVariables false
set_option maxRecDepth 100000
set_option maxHeartbeats 2000000
namespace Go.Proofs.YtpibbcnkgdmcbaaGreatDoor
open Go.RowKit
def jP (w:World) (e:TypeId) (g:Nat) (L:List Bool):Prop:=aV w g e (L.map Value.bool).toArray
theorem jP.lt {w:World} {e:TypeId} {g:Nat} {L:List Bool} (h:jP w e g L):g<w.heap.size:=aV.lt h
theorem jP.cell {w:World} {e:TypeId} {g:Nat} {L:List Bool} (h:jP w e g L) (j:Nat) (hj:j<L.length):w.cell? ⟨g,j,none⟩=some (.bool (L.getD j false)):=by
 rw [aV.cell h,List.getElem?_toArray,List.getElem?_map];simp [List.getD_eq_getElem?_getD,hj]
theorem jP.frozen {w:World} {e:TypeId} {g:Nat} {L:List Bool} (h:jP w e g L) (j:Nat):w.frozen? ⟨g,j,none⟩=false:=aV.frozen h j
theorem jP.upd {S:Nat→Prop} {w w':World} {e:TypeId} {g:Nat} {L:List Bool} (h:jP w e g L) (u:aH S w w') (hs: ¬S g):jP w' e g L:=aV.upd h u hs
theorem jP.drew {w:World} {e:TypeId} {g:Nat} {L:List Bool} (h:jP w e g L):jP w.drew e g L:=h
theorem jP.alloc {w:World} {e:TypeId} {g:Nat} {L:List Bool} (h:jP w e g L) (o:Obj):jP (w.alloc o) e g L:=aV.alloc h o
theorem jP.put {w:World} {e:TypeId} {g:Nat} {L:List Bool} (h:jP w e g L) (p:Nat) (x:Bool):jP (w.setCell ⟨g,p,none⟩ (.bool x)) e g (L.set p x):=by
 have:=aV.put h p (.bool x);unfold jP;rw [List.map_set];rw [List.setIfInBounds_toArray] at this;exact this
theorem G9 (n:Nat):madeCells (Value.cells (.bool false)) n=((aj.rep n false).map Value.bool).toArray:=by
 unfold aj.rep;apply Array.ext
 · simp [madeCells]
 · intro i h1 h2
   simp [madeCells,Value.cells,Nat.mod_one]
section
variable {P:Program}
theorem q9 {w:World} {ops:Array Oper} {rest:List Oper} {o:Oper} {a:Act} {Q:Exit→Act→World→Prop}
 (hgd:o.guard=none) (l c:Operand) (t:TypeId) (ho:o.op= .makeSlice t l c)
 (e:TypeId) (i:TypeInfo) (ht:P.underlying t=some (.slice e)) (hi:P.info? e=some i) (hz:i.zero=some (.bool false)) (hsize:i.size=1) (hby:i.bytes=1)
 (k k':IntKind) (C:Int) (n:Nat) (hl:a.eval l= .int k C) (hc:a.eval c= .int k' C) (hC:C=(n:Int)) (hn:n≤1000000000000)
 (hK: ∀w',jP w' e w.heap.size (aj.rep n false)→aH (fun _=>False) w w'→w'.heap.size=w.heap.size+1→wpList P ops Q rest (a.put o.dst (.slice (some ⟨w.heap.size,0,none⟩) n n)) w'):
 wpList P ops Q (o::rest) a w:=by
 refine wpList_plain hgd fun K hK'=> ?_;subst hC;have hrun:=run_make (P:=P) w t e i (.bool false) ht hi hz k k' (n:Int) (n:Int) (by omega) (by omega) (by rw [hby];omega) (by omega);simp only [Int.toNat_natCast,hsize,Nat.mul_one,G9] at hrun;unfold Oper.wp;simp only [execOp,ho,hl,hc,Sem.run_bind,hrun,Result.andThen_ok,Sem.run_pure];exact hK' _ _ (hK _ (heap_alloc_new w _) ((aH.refl _ _).alloc _) (by simp))
end
end Go.Proofs.YtpibbcnkgdmcbaaGreatDoor
namespace Go.Proofs.YtpibbcnkgdmcbaaGreatDoor.Mk
open Go.RowKit
structure aU (w:World) (p o g:Nat) (L:List Bool):Prop where
 head:w.cell? ⟨p,o,none⟩=some (.slice (some ⟨g,0,none⟩) L.length L.length)
 row:jP w 4 g L
 ne:p≠g
 pos:1≤L.length
 big:L.length≤256
theorem aU.lt {w:World} {p o g:Nat} {L:List Bool} (h:aU w p o g L):p<w.heap.size:=World.block_lt_of_cell? w _ h.head
theorem aU.upd {S:Nat→Prop} {w w':World} {p o g:Nat} {L:List Bool} (h:aU w p o g L) (u:aH S w w') (hp: ¬S p) (hg: ¬S g):aU w' p o g L:=
 ⟨(World.cell?_of_block (w:=w) (u.block p h.lt hp)).trans h.head,h.row.upd u hg,h.ne,h.pos,h.big⟩
theorem aU.written {w w':World} {p o g:Nat} {L M:List Bool} (h:aU w p o g L) (u:aH (fun k=>k=g) w w') (hr:jP w' 4 g M) (hl:M.length=L.length):aU w' p o g M:=
 ⟨by rw [hl];exact (World.cell?_of_block (w:=w) (u.block p h.lt h.ne)).trans h.head,hr,h.ne,by rw [hl];exact h.pos,by rw [hl];exact h.big⟩
theorem aU.alloc {w:World} {p o g:Nat} {L:List Bool} (h:aU w p o g L) (x:Obj):aU (w.alloc x) p o g L:=h.upd ((aH.refl (fun _=>False) w).alloc x) id id
theorem aU.below {w w':World} {p o g:Nat} {L:List Bool} (h:aU w p o g L) {B:Nat} (hp:p<B) (hg:g<B) (hb:Below B w w'):aU w' p o g L:=
 h.upd (aH.kR hb) (by omega) (by omega)
theorem YI (w:World):(sizeOf (Tryz.prog.elem 89)).run Tryz.prog w= .ok 1 w:=by kernel_rfl
theorem Y_:(Tryz.prog.info? 4).map (fun i=>(i.zero,i.size,i.bytes))=some (some (.bool false),1,1):=by kernel_rfl
def Made (w:World) (n:Nat) (e:Ending) (w':World):Prop:=
 ∃p g,e= .returned (.tuple #[.pointer (some ⟨p,0,none⟩), .int .i64 0])∧aU w' p 0 g (aj.rep n false)∧w.heap.size≤p∧w.heap.size≤g∧aH (fun _=>False) w w'
theorem BR (n:Nat) (h0:1≤n) (h1:n≤256) (w:World):Calls Tryz.prog 35 #[.int .i64 (n:Int)] w (Made w n):=by
 obtain ⟨i0,hi,hz0,hz1,hz2⟩:=info_parts Y_;go_enter Tryz.func35,Tryz.ntmps35
 go_wp2_with (at_make;refine q9 rfl _ _ 89 rfl 4 i0 Tryz.underlying89 hi hz0 hz1 hz2 _ _ _ n rfl rfl rfl ?_ ?_;omega;intro w1 hr hu hs)
 have S1:=Lib.hid hs;have R1:=Lib.hid hr;have U1:=Lib.hid hu;clear hs hr hu;go_wp2
 go_ret2
 have hlt:=R1.out.lt;refine ⟨w.heap.size+1,w.heap.size,rfl,⟨?_,R1.out.alloc _,by omega,by rw [aj.dS];exact h0,by rw [aj.dS];exact h1⟩,by omega,Nat.le_refl _,U1.out.alloc _⟩;rw [aj.dS,←S1.out];exact (aV.new w1 _ _).cell 0
theorem JM (n:Int) (h:n<1∨256<n) (w:World):Calls Tryz.prog 35 #[.int .i64 n] w fun e w'=>e= .returned (.tuple #[.pointer none, .int .i64 2])∧w=w':=by
 by_cases h0:n<1
 · clear h
   go_enter Tryz.func35,Tryz.ntmps35
   go_wp2
   go_ret2
   exact ⟨rfl,rfl⟩
 · have h1:256<n:=by omega
   have h2:1≤n:=by omega
   clear h h0;go_enter Tryz.func35,Tryz.ntmps35
   go_wp2
   go_ret2
   exact ⟨rfl,rfl⟩
def zX (L:List Bool) (a k:Int):Prop:=0≤a∧1≤k∧a+k≤(L.length:Int)
instance (L:List Bool) (a k:Int):Decidable (zX L a k):=inferInstanceAs (Decidable (_∧_))
theorem pK {w:World} {p o g:Nat} {L:List Bool} (h:aU w p o g L) (a k:Nat) (hk:1≤k) (hl:a+k≤L.length):
 Calls Tryz.prog 142 #[.pointer (some ⟨p,o,none⟩), .int .i64 (a:Int), .int .i64 (k:Int)] w fun e w'=>e= .returned (.tuple #[.slice (some ⟨g,a,none⟩) k (L.length-a), .int .i64 0])∧w=w':=by
 have hb:=h.big;obtain ⟨q,ho,hr⟩:=nX (P:=Tryz.prog) 89 Tryz.underlying89 YI .i64 .i64 g 0 L.length L.length a (a+k) (by omega) hl;rw [show ((a+k:Nat):Int)=(a:Int)+(k:Int) by omega,show a+k-a=k by omega] at hr;obtain rfl:q=a:=by rw [ho (by omega)];omega
 have hc:=h.head;clear h ho;go_enter Tryz.func142,Tryz.ntmps142
 go_wp2
 go_ret2
 exact ⟨rfl,rfl⟩
theorem xV {w:World} {p o g:Nat} {L:List Bool} (h:aU w p o g L) (a k:Int) (ha:(Lit.int .i64 a).wf=true) (hk:(Lit.int .i64 k).wf=true) (hn: ¬zX L a k):
 Calls Tryz.prog 142 #[.pointer (some ⟨p,o,none⟩), .int .i64 a, .int .i64 k] w fun e w'=>e= .returned (.tuple #[.slice none 0 0, .int .i64 2])∧w=w':=by
 have hb:=h.big;have hc:=h.head;have b: ∀n:Int,(Lit.int .i64 n).wf=true→ -9223372036854775808≤n∧n≤9223372036854775807:=by
  intro n h;simp [Lit.wf,IntKind.min,IntKind.max,IntKind.signed,IntKind.bits] at h;omega
 obtain ⟨a1,a2⟩:=b _ ha;obtain ⟨k1,k2⟩:=b _ hk;clear h b ha hk;unfold zX at hn;by_cases h0:a<0
 · clear hn
   go_enter Tryz.func142,Tryz.ntmps142
   go_wp2
   go_ret2
   exact ⟨rfl,rfl⟩
 · have h0':0≤a:=by omega
   clear h0;by_cases h1:k<1
   · clear hn
     go_enter Tryz.func142,Tryz.ntmps142
     go_wp2
     go_ret2
     exact ⟨rfl,rfl⟩
   · have h1':1≤k:=by omega
     have h2:(L.length:Int)-a<k:=by omega
     clear h1 hn;go_enter Tryz.func142,Tryz.ntmps142
     go_wp2
     go_ret2
     exact ⟨rfl,rfl⟩
def Found (L:List Bool) (a k:Nat) (x:Bool) (w:World) (e:Ending) (w':World):Prop:=
 (∃r:Int,e= .returned (.int .i64 r)∧((r= -1∧aj.bI L a k (!x))∨(0≤r∧ ¬aj.bI L a k (!x))))∧w=w'
theorem uz (w:World) (g a k cap:Nat) (L:List Bool) (hr:jP w 4 g L) (hl:a+k≤L.length) (hb:L.length≤256) (x:Bool):
 Calls Tryz.prog 167 #[.slice (some ⟨g,a,none⟩) k cap, .bool x] w (Found L a k x w):=by
 have HR:=Lib.hid hr;clear hr;go_enter Tryz.func167,Tryz.ntmps167
 go_wp2
 go_loop [8] (fun i=> ∃j:Nat,j≤k∧i= .int .i64 (j:Int)∧aj.bI L a j (!x)) (fun i=>k-(intOf i).toNat)
 case atStart=>exact ⟨0,Nat.zero_le _,rfl,aj.bI.none _ _ _⟩
 case round=>
  obtain ⟨j,hj,rfl,hf⟩:=hrel;have HF:=Lib.hid hf;clear hf;by_cases hlt:j<k
  · have hcell:=HR.out.cell (a+j) (by omega)
    obtain ⟨c,hcd⟩: ∃c,L.getD (a+j) false=c:=⟨_,rfl⟩;rw [hcd] at hcell;have HC:=Lib.hid hcd;clear hcd;by_cases hx:c=x
    · subst hx
      go_wp2;go_ret;refine ⟨⟨_,rfl, .inr ⟨by omega,fun h=> ?_⟩⟩,rfl⟩;have:=h.at (i:=a+j) (by omega) (by omega) false;rw [HC.out] at this;cases c<;>cases this
    · have hx1:(x==c)=false:=by cases x<;>cases c<;>simp_all
      have HX:=Lib.hid hx;clear hx;go_wp2
      go_round
      case rel=>exact ⟨j+1,by omega,by go_num,HF.out.snoc (by omega) (by rw [HC.out];have:=HX.out;cases x<;>cases c<;>simp_all)⟩
      case measure=>simp [intOf];omega
  · obtain rfl:j=k:=by omega
    go_wp2;go_ret;exact ⟨⟨_,rfl, .inl ⟨rfl,HF.out⟩⟩,rfl⟩
theorem nD (w:World) (g a k cap:Nat) (L:List Bool) (hr:jP w 4 g L) (hl:a+k≤L.length) (hb:L.length≤256) (x r:Bool) (he:(!decide (aj.bI L a k (!x)))=r):
 Calls Tryz.prog 143 #[.slice (some ⟨g,a,none⟩) k cap, .bool x] w fun e w'=>e= .returned (.bool r)∧w=w':=by
 have HC:=Lib.hid (uz w g a k cap L hr hl hb x);have HE:=Lib.hid he;clear hr he;go_enter Tryz.func143,Tryz.ntmps143
 go_wp2_with fail
 refine HC.out.mono ?_;rintro e w' ⟨⟨q,rfl,hq⟩,rfl⟩;rcases hq with ⟨rfl,hf⟩|⟨h0,hf⟩
 · have HF:=Lib.hid hf;clear hf
   go_wp2;go_ret;refine ⟨?_,rfl⟩;rw [←HE.out,decide_eq_true HF.out];rfl
 · have HF:=Lib.hid hf;clear hf
   go_wp2;go_ret;refine ⟨?_,rfl⟩;rw [←HE.out,decide_eq_false HF.out];rfl
def nV (b:Bool) (code:Int) (L:List Bool) (a k:Int):Int:=if zX L a k then (if aj.bI L a.toNat k.toNat (!b) then 0 else code) else 2
def nU (b:Bool) (L:List Bool) (a k:Int):List Bool:=if zX L a k∧aj.bI L a.toNat k.toNat (!b) then aj.setAt L a.toNat k.toNat b else L
theorem KH {b:Bool} {code:Int} {L:List Bool} {a k:Int} (h: ¬zX L a k):nV b code L a k=2:=by unfold nV;rw [if_neg h]
theorem KG {b:Bool} {L:List Bool} {a k:Int} (h: ¬zX L a k):nU b L a k=L:=by unfold nU;rw [if_neg fun x=>h x.1]
theorem yF {L:List Bool} {a k:Nat} (hk:1≤k) (h:a+k≤L.length):zX L a k:=⟨by omega,by omega,by omega⟩
theorem Oa {b:Bool} {code:Int} {L:List Bool} {a k:Nat} (hk:1≤k) (h:a+k≤L.length) (hf: ¬aj.bI L a k (!b)):nV b code L a k=code:=by
 unfold nV;rw [if_pos (yF hk h),Int.toNat_natCast,Int.toNat_natCast,if_neg hf]
theorem N_ {b:Bool} {L:List Bool} {a k:Nat} (hf: ¬aj.bI L a k (!b)):nU b L a k=L:=by
 unfold nU;rw [Int.toNat_natCast,Int.toNat_natCast,if_neg fun x=>hf x.2]
theorem pG {b:Bool} {code:Int} {L:List Bool} {a k:Nat} (hk:1≤k) (hf:aj.bI L a k (!b)):nV b code L a k=0:=by
 unfold nV;rw [if_pos (yF hk (hf.le hk)),Int.toNat_natCast,Int.toNat_natCast,if_pos hf]
theorem pF {b:Bool} {L:List Bool} {a k:Nat} (hk:1≤k) (hf:aj.bI L a k (!b)):nU b L a k=aj.setAt L a k b:=by
 unfold nU;rw [Int.toNat_natCast,Int.toNat_natCast,if_pos ⟨yF hk (hf.le hk),hf⟩]
def Wrote (w:World) (p o g:Nat) (M:List Bool) (v:Value) (e:Ending) (w':World):Prop:=e= .returned v∧aU w' p o g M∧aH (fun k=>k=g) w w'
theorem aU.same {w:World} {p o g:Nat} {L:List Bool} (h:aU w p o g L):aU w p o g L∧aH (fun k=>k=g) w w:=⟨h,aH.refl _ _⟩
def Vj (w:World) (g a k:Nat) (L:List Bool) (b:Bool) (i:Value) (wr:World):Prop:=
 ∃j:Nat,j≤k∧i= .int .i64 (j:Int)∧jP wr 4 g (aj.setAt L a j b)∧aH (fun k=>k=g) w wr
theorem Sr {w:World} {p o g:Nat} {L:List Bool} (h:aU w p o g L) (a k:Nat) (hk:1≤k) (b:Bool) (code:Int) (hf:aj.bI L a k (!b)):
 Calls Tryz.prog 107 #[.pointer (some ⟨p,o,none⟩), .int .i64 (a:Int), .int .i64 (k:Int), .bool b, .int .i64 code] w (Wrote w p o g (aj.setAt L a k b) (.int .i64 0)):=by
 have hl:=hf.le hk;have hb:=h.big;have HP:=Lib.hid (pK h a k hk hl);have HC:=Lib.hid (nD w g a k (L.length-a) L h.row hl hb b false (by rw [decide_eq_true hf];rfl));have H:=Lib.hid h;clear h hf;go_enter Tryz.func107,Tryz.ntmps107
 go_wp2_with (first|(go_at_call 142;refine HP.out.mono ?_;rintro e w' ⟨rfl,rfl⟩)|(go_at_call 143;refine HC.out.mono ?_;rintro e w' ⟨rfl,rfl⟩))
 go_loopw [30] (fun i wr=>Vj w g a k L b i wr) (fun i _=>k-(intOf i).toNat)
 case atStart=>exact ⟨0,Nat.zero_le _,rfl,by rw [aj.xI];exact H.out.row,aH.refl _ _⟩
 case round=>
  obtain ⟨j,hj,rfl,hr,hu⟩:=hrel;by_cases hlt:j<k
  · have hcell:=hr.cell (a+j) (by rw [aj.aZ _ (by omega)];omega)
    obtain ⟨c,hcd⟩: ∃c,(aj.setAt L a j b).getD (a+j) false=c:=⟨_,rfl⟩;rw [hcd] at hcell;clear hcd;have hfr:wr.frozen? ⟨g,a+j,none⟩=false:=hr.frozen _;have HR:=Lib.hid hr;clear hr;go_wp2;refine ⟨⟨j+1,by omega,by go_num, ?_,hu.setCell (.inl rfl) _⟩,by simp [intOf];omega⟩;rw [←aj.xH _ (by omega)];exact HR.out.put (a+j) b
  · obtain rfl:j=k:=by omega
    have HH:=Lib.hid (And.intro hr hu);clear hr hu;go_wp2;go_ret;exact ⟨rfl,H.out.written HH.out.2 HH.out.1 (aj.aZ _ hl),HH.out.2⟩
theorem Sv {w:World} {p o g:Nat} {L:List Bool} (h:aU w p o g L) (a k:Nat) (hk:1≤k) (hl:a+k≤L.length) (b:Bool) (code:Int) (hf: ¬aj.bI L a k (!b)):
 Calls Tryz.prog 107 #[.pointer (some ⟨p,o,none⟩), .int .i64 (a:Int), .int .i64 (k:Int), .bool b, .int .i64 code] w fun e w'=>e= .returned (.int .i64 code)∧w=w':=by
 have hb:=h.big;have HP:=Lib.hid (pK h a k hk hl);have HC:=Lib.hid (nD w g a k (L.length-a) L h.row hl hb b true (by rw [decide_eq_false hf];rfl));clear h hf;go_enter Tryz.func107,Tryz.ntmps107
 go_wp2_with (first|(go_at_call 142;refine HP.out.mono ?_;rintro e w' ⟨rfl,rfl⟩)|(go_at_call 143;refine HC.out.mono ?_;rintro e w' ⟨rfl,rfl⟩))
 go_ret;exact ⟨rfl,rfl⟩
theorem N9 {w:World} {p o g:Nat} {L:List Bool} (h:aU w p o g L) (a k:Int) (ha:(Lit.int .i64 a).wf=true) (hk:(Lit.int .i64 k).wf=true) (hn: ¬zX L a k) (b:Bool) (code:Int):
 Calls Tryz.prog 107 #[.pointer (some ⟨p,o,none⟩), .int .i64 a, .int .i64 k, .bool b, .int .i64 code] w fun e w'=>e= .returned (.int .i64 2)∧w=w':=by
 have HP:=Lib.hid (xV h a k ha hk hn);clear h hn ha hk;go_enter Tryz.func107,Tryz.ntmps107
 go_wp2_with (go_at_call 142;refine HP.out.mono ?_;rintro e w' ⟨rfl,rfl⟩)
 go_ret;exact ⟨rfl,rfl⟩
theorem Di {w:World} {p o g:Nat} {L:List Bool} (h:aU w p o g L) (a k:Int) (ha:(Lit.int .i64 a).wf=true) (hk:(Lit.int .i64 k).wf=true) (b:Bool) (code:Int):
 Calls Tryz.prog 107 #[.pointer (some ⟨p,o,none⟩), .int .i64 a, .int .i64 k, .bool b, .int .i64 code] w (Wrote w p o g (nU b L a k) (.int .i64 (nV b code L a k))):=by
 by_cases hn:zX L a k
 · obtain ⟨h0,h1,h2⟩:=hn
   obtain ⟨a,rfl⟩:=Int.eq_ofNat_of_zero_le h0;obtain ⟨k,rfl⟩:=Int.eq_ofNat_of_zero_le (show 0≤k by omega);by_cases hf:aj.bI L a k (!b)
   · have:=Sr h a k (by omega) b code hf
     rwa [←pF (by omega) hf,←pG (code:=code) (by omega) hf] at this
   · refine (Sv h a k (by omega) (by omega) b code hf).mono ?_
     rintro e w' ⟨rfl,rfl⟩;exact ⟨by rw [Oa (by omega) (by omega) hf],by rw [N_ hf];exact h,aH.refl _ _⟩
 · refine (N9 h a k ha hk hn b code).mono ?_
   rintro e w' ⟨rfl,rfl⟩;exact ⟨by rw [KH hn],by rw [KG hn];exact h,aH.refl _ _⟩
theorem Eh {w:World} {p o g:Nat} {L:List Bool} (h:aU w p o g L) (a k:Int) (ha:(Lit.int .i64 a).wf=true) (hk:(Lit.int .i64 k).wf=true):
 Calls Tryz.prog 71 #[.pointer (some ⟨p,o,none⟩), .int .i64 a, .int .i64 k] w (Wrote w p o g (nU true L a k) (.int .i64 (nV true 6 L a k))):=by
 have HT:=Lib.hid (Di h a k ha hk true 6);clear h ha hk;go_enter Tryz.func71,Tryz.ntmps71
 go_wp2_with fail
 refine HT.out.mono ?_;rintro e w' ⟨rfl,hm⟩;have HM:=Lib.hid hm;clear hm;go_wp2;go_ret;exact ⟨rfl,HM.out⟩
theorem ER {w:World} {p o g:Nat} {L:List Bool} (h:aU w p o g L) (a k:Int) (ha:(Lit.int .i64 a).wf=true) (hk:(Lit.int .i64 k).wf=true):
 Calls Tryz.prog 155 #[.pointer (some ⟨p,o,none⟩), .int .i64 a, .int .i64 k] w (Wrote w p o g (nU false L a k) (.int .i64 (nV false 5 L a k))):=by
 have HT:=Lib.hid (Di h a k ha hk false 5);clear h ha hk;go_enter Tryz.func155,Tryz.ntmps155
 go_wp2_with fail
 refine HT.out.mono ?_;rintro e w' ⟨rfl,hm⟩;have HM:=Lib.hid hm;clear hm;go_wp2;go_ret;exact ⟨rfl,HM.out⟩
end Go.Proofs.YtpibbcnkgdmcbaaGreatDoor.Mk
namespace Go.Proofs.YtpibbcnkgdmcbaaGreatDoor.Mk
open Go.RowKit Go.Shelf
attribute [local go_sem] Oper.semAt_some
def Keeps (K:Nat→Prop) (W W':World):Prop:= ∀k,K k→W'.heap[k]? =W.heap[k]?
theorem Keeps.refl (K:Nat→Prop) (W:World):Keeps K W W:=fun _ _=>rfl
theorem jA {K:Nat→Prop} {A B C:World} (h:Keeps K A B) (k:Keeps K B C):Keeps K A C:=fun i hi=>(k i hi).trans (h i hi)
theorem rZ {K:Nat→Prop} {w:World} (hn: ∀k,K k→k<w.heap.size) (W:World) (l:Nat) (o o':Obj) (hl:w.heap.size≤l) (h:W.heap[l]? =some o) (_:o.isCells=false) (_:o.isWalk=false):Keeps K W (W.putObj l o'):=
 fun k hk=>(grownBy_putObj' W l o').block k (by have:=hn k hk;have:=(Array.getElem?_eq_some_iff.1 h).1;omega) (by have:=hn k hk;intro e;injection e;omega)
theorem Keeps.setCell {K:Nat→Prop} {W W':World} (h:Keeps K W W') {a:Addr} (ha: ¬K a.block) (v:Value):Keeps K W (W'.setCell a v):=
 jA h fun k hk=>Below.heap_setCell _ _ _ _ (fun e=>ha (e▸hk))
theorem Keeps.cell {K:Nat→Prop} {W W':World} (h:Keeps K W W') {a:Addr} (ha:K a.block):W'.cell? a=W.cell? a:=World.cell?_of_block (h _ ha)
def K3 (p g b:Nat) (k:Nat):Prop:=k=p∨k=g∨k=b
abbrev Row:Type:={x:Nat×Nat//x.1≤256∧x.2≤256}
abbrev rowVals (x:Row):Array Value:= #[.int .i64 (x.1.1:Int), .int .i64 (x.1.2:Int)]
def X8 (L:List Bool) (pre:List Row):Prop:=pre.map (·.1)<+:aj.rows L
def jW (L:List Bool) (xs:List Row):Prop:=xs.map (·.1)=aj.rows L
def XQ (L:List Bool) (p g b:Nat) (J:List Row→World→Prop) (W:World) (a i:Value) (wr:World):Prop:=
 ∃(pre:List Row) (k c:Nat),k≤L.length∧c≤k∧a= .int .i64 (c:Int)∧i= .int .i64 (k:Int)∧pre.map (·.1)++aj.rowsFrom c k (L.drop k)=aj.rows L∧J pre wr∧Keeps (K3 p g b) W wr
theorem E8 {L:List Bool} {pre:List Row} {x:Nat×Nat} {t:List (Nat×Nat)} (h:pre.map (·.1)++(x::t)=aj.rows L):pre.length<(aj.rows L).length:=by
 rw [←h];simp
theorem rows1_in (F:Fence) (n:Nat) (hF:F.fn 103) (hro:F.round=none) (hn:1≤n) (l b p o g:Nat) (L:List Bool) (J Jx:List Row→World→Prop)
 (hY: ∀pre x W,J pre W→pre.length<(aj.rows L).length→YieldAt F (n-1) Tryz.prog l (rowVals x) W fun e W'=>
  (e= .returned (.bool true)∧J (pre++ [x]) W'∧Keeps (K3 p g b) W W')∨(e= .returned (.bool false)∧Jx (pre++ [x]) W'))
 (W:World) (hb:W.cell? ⟨b,0,none⟩=some (.pointer (some ⟨p,o,none⟩))) (hm:aU W p o g L) (h0:J [] W):
 CallsIn F n Tryz.prog 103 #[.func (.yield l) #[] #[], .pointer (some ⟨b,0,none⟩)] W fun e W'=>(∃v,e= .returned v)∧
  ((∃ys,jW L ys∧J ys W')∨(∃pre,X8 L pre∧Jx pre W')):=by
 have hbig:=hm.big;have hd:=hm.head;have H:=Lib.hid hm;have H0:=Lib.hid h0;have HB:=Lib.hid hb;clear hm h0;refine callsIn_of_wp Tryz.func103 rfl hF ?_ hro;simp only [Tryz.ntmps103,List.size_toArray,List.length_cons,List.length_nil,Nat.reduceAdd,Nat.reduceSub,Array.replicate_succ,Array.replicate_zero,List.push_toArray,List.append_toArray,List.nil_append,List.cons_append]
 gi_wp2
 gi_loopw [3,13] (fun a i wr=>XQ L p g b J W a i wr) (fun _ i _=>L.length-(intOf i).toNat)
 case atStart=>exact ⟨[],0,0,Nat.zero_le _,Nat.le_refl _,rfl,rfl,rfl,H0.out,Keeps.refl _ _⟩
 case round=>
  obtain ⟨pre,k,c,hk,hc,rfl,rfl,hx,hJ,hkp⟩:=hrel;have HX:=Lib.hid hx;have HJ:=Lib.hid hJ;have HK:=Lib.hid hkp;clear hx hJ hkp;by_cases hlt:k<L.length
  · have hcell:wr.cell? ⟨g,k,none⟩=some (.bool (L.getD k false)):=(HK.out.cell (a:=⟨g,k,none⟩) (.inr (.inl rfl))).trans (H.out.row.cell k hlt)
    have hdrop:L.drop k=L.getD k false::L.drop (k+1):=by
     rw [List.drop_eq_getElem_cons hlt,List.getD_eq_getElem?_getD,List.getElem?_eq_getElem hlt];rfl
    have hx:=HX.out;rw [hdrop] at hx;obtain ⟨y,hy⟩: ∃y,L.getD k false=y:=⟨_,rfl⟩;rw [hy] at hx hcell;clear HX hdrop hy;cases y with
    |false=>
     have HX:=Lib.hid hx;clear hx
     gi_wp2
     go_roundw
     case rel=>exact ⟨pre,k+1,c,by omega,by omega,rfl,by go_num,HX.out,HJ.out,HK.out⟩
     case measure=>simp [intOf];omega
    |true=>
     unfold aj.rowsFrom at hx;by_cases hck:c<k
     · rw [if_pos hck] at hx
       have hlen:=E8 hx;obtain ⟨fn,tmps,assign,body,hy,hR⟩:=hY pre ⟨(c,k-c),by omega,by omega⟩ wr HJ.out hlen;dsimp only [rowVals] at hy;rw [show ((k-c:Nat):Int)=(k:Int)-(c:Int) by omega] at hy;have HX:=Lib.hid hx;clear hx;have HL:=Lib.hid hlen;clear hlen
       gi_wp2
       refine hR.mono ?_;rintro e W3 (⟨rfl,hJ3,hk3⟩|⟨rfl,hJx3⟩)
       · have H3:=Lib.hid (And.intro hJ3 hk3);clear hJ3 hk3
         gi_wp2
         go_roundw
         case rel=>exact ⟨pre++ [⟨(c,k-c),by omega,by omega⟩],k+1,k+1,by omega,by omega,by go_num,by go_num,by rw [List.map_append,List.append_assoc];exact HX.out,H3.out.1,jA HK.out H3.out.2⟩
         case measure=>simp [intOf];omega
       · have H3:=Lib.hid hJx3;clear hJx3
         gi_wp2
         refine bodyPost_ret (results_none rfl _ _ _) rfl ?_;exact ⟨⟨_,rfl⟩, .inr ⟨pre++ [⟨(c,k-c),by omega,by omega⟩],⟨aj.rowsFrom (k+1) (k+1) (L.drop (k+1)),by rw [List.map_append,List.append_assoc];exact HX.out⟩,H3.out⟩⟩
     · rw [if_neg hck] at hx
       have HX:=Lib.hid hx;clear hx;have abH:k≤c:=by omega
       clear hck
       gi_wp2
       refine ⟨fun _ h=>(by cases h), ?_⟩
       gi_wp2
       go_roundw
       case rel=>exact ⟨pre,k+1,k+1,by omega,by omega,by go_num,by go_num,HX.out,HJ.out,HK.out⟩
       case measure=>simp [intOf];omega
  · obtain rfl:k=L.length:=by omega
    have hx:=HX.out;clear HX;have hb3:wr.cell? ⟨b,0,none⟩=some (.pointer (some ⟨p,o,none⟩)):=(HK.out.cell (a:=⟨b,0,none⟩) (.inr (.inr rfl))).trans HB.out;have hd3:wr.cell? ⟨p,o,none⟩=some (.slice (some ⟨g,0,none⟩) L.length L.length):=(HK.out.cell (a:=⟨p,o,none⟩) (.inl rfl)).trans hd;rw [List.drop_length] at hx;unfold aj.rowsFrom at hx;by_cases hck:c<L.length
    · rw [if_pos hck] at hx
      have hlen:=E8 hx;obtain ⟨fn,tmps,assign,body,hy,hR⟩:=hY pre ⟨(c,L.length-c),by omega,by omega⟩ wr HJ.out hlen;dsimp only [rowVals] at hy;rw [show ((L.length-c:Nat):Int)=(L.length:Int)-(c:Int) by omega] at hy;have HX:=Lib.hid hx;clear hx;have HL:=Lib.hid hlen;clear hlen
      gi_wp2
      refine hR.mono ?_;rintro e W3 (⟨rfl,hJ3,hk3⟩|⟨rfl,hJx3⟩)
      · have H3:=Lib.hid (And.intro hJ3 hk3);clear hJ3 hk3
        gi_wp2
        go_end0
        exact ⟨⟨_,rfl⟩, .inl ⟨pre++ [⟨(c,L.length-c),by omega,by omega⟩],by unfold jW;rw [List.map_append];exact HX.out,H3.out.1⟩⟩
      · have H3:=Lib.hid hJx3;clear hJx3
        gi_wp2
        go_end0
        exact ⟨⟨_,rfl⟩, .inr ⟨pre++ [⟨(c,L.length-c),by omega,by omega⟩],⟨[],by rw [List.map_append,List.append_nil];exact HX.out⟩,H3.out⟩⟩
    · rw [if_neg hck,List.append_nil] at hx
      have HX:=Lib.hid hx;clear hx;have abH:L.length≤c:=by omega
      clear hck
      gi_wp2
      go_end0
      exact ⟨⟨_,rfl⟩, .inl ⟨pre,HX.out,HJ.out⟩⟩
theorem rows_in (F:Fence) (n:Nat) (hF:F.fn 64) (hro:F.round=none) (a:Option Addr) (w:World):
 CallsIn F n Tryz.prog 64 #[.pointer a] w fun e w'=>e= .returned (.func (.func 103) #[] #[.pointer (some ⟨w.heap.size,0,none⟩)])∧w'=w.alloc (.cells #[.pointer a] 85):=by
 refine callsIn_of_wp Tryz.func64 rfl hF ?_ hro;simp only [Tryz.ntmps64,List.size_toArray,List.length_cons,List.length_nil,Nat.reduceAdd,Nat.reduceSub,Array.replicate_succ,Array.replicate_zero,List.push_toArray,List.append_toArray,List.nil_append,List.cons_append]
 gi_wp2
 go_ret;exact ⟨rfl,rfl⟩
theorem rows_stops (F:Fence) (n:Nat) (hF:F.fn 103) (hro:F.round=none) (hn:1≤n) (b p o g:Nat) (L:List Bool) (w:World) (hb:w.cell? ⟨b,0,none⟩=some (.pointer (some ⟨p,o,none⟩))) (hm:aU w p o g L):
 SeqStopsK F n Tryz.prog 103 #[.pointer (some ⟨b,0,none⟩)] rowVals (Keeps (K3 p g b)) (jW L) (X8 L) (aj.rows L).length w:=fun l J Jx W hW _ _ hY h0=>by
 have hlt:=World.block_lt_of_cell? w _ hb;exact rows1_in F n hF hro hn l b p o g L J Jx hY W ((hW.cell (p:=⟨b,0,none⟩) hlt).trans hb) (hm.below hm.lt hm.row.lt hW) h0
end Go.Proofs.YtpibbcnkgdmcbaaGreatDoor.Mk
namespace Go.Proofs.YtpibbcnkgdmcbaaGreatDoor.Mk
open Go.RowKit Go.Shelf
attribute [local go_sem] Oper.semAt_some
def nP (pre:List Row):Nat:=aj.sums (pre.map (·.1))
theorem Gg (pre:List Row) (x:Row):nP (pre++ [x])=nP pre+x.1.2:=by unfold nP;rw [List.map_append,List.map_singleton,aj.KO]
theorem Oq (pre:List Row):nP pre≤256*pre.length:=by
 induction pre with
 |nil=>simp [nP,aj.sums]
 |cons x t ih=>
  have:=x.2.2;have e:nP (x::t)=x.1.2+nP t:=by
   unfold nP;rw [List.map_cons,show x.1::t.map (·.1)= [x.1]++t.map (·.1) from rfl,aj.uX];simp [aj.sums]
  rw [e,List.length_cons];omega
theorem KR {L:List Bool} {xs:List Row} (h:jW L xs):nP xs=aj.left L:=by unfold nP;rw [h,aj.Oo]
theorem rowsFrom_len (r:List Bool): ∀a i,(aj.rowsFrom a i r).length≤r.length+1:=by
 induction r with
 |nil=>intro a i;unfold aj.rowsFrom;split<;>simp
 |cons x t ih=>
  intro a i;cases x with
  |false=>unfold aj.rowsFrom;have:=ih a (i+1);simp;omega
  |true=>
   unfold aj.rowsFrom;have:=ih (i+1) (i+1);rw [List.length_append];split<;>simp<;>omega
theorem rows_len (L:List Bool):(aj.rows L).length≤L.length+1:=rowsFrom_len L 0 0
theorem Ud (p o g:Nat) (L:List Bool) (w:World) (hm:aU w p o g L):
 CallsIn Fence.wide 5 Tryz.prog 29 #[.pointer (some ⟨p,o,none⟩)] w fun e W'=>e= .returned (.int .i64 (aj.left L:Nat))∧Below w.heap.size w W':=by
 have hp:=hm.lt;have hg:=hm.row.lt;have hN:(aj.rows L).length≤257:=Nat.le_trans (rows_len L) (by have:=hm.big;omega);have HM:=Lib.hid hm;clear hm;refine callsIn_of_wp_marks Tryz.func29 rfl trivial ?_ rfl;simp only [Tryz.ntmps29,List.size_toArray,List.length_cons,List.length_nil,Nat.reduceAdd,Nat.reduceSub,Array.replicate_succ,Array.replicate_zero,List.push_toArray,List.append_toArray,List.nil_append,List.cons_append]
 gi_wp2_with (refine ⟨trivial, ?_⟩;gi_at_call 64;refine (rows_in Fence.wide _ trivial rfl _ _).mono ?_;rintro e w' ⟨rfl,rfl⟩)
 have bS:=Boxed.new w 3 (.int .i64 0);have bN:=Boxed.new (w.alloc (.cells #[.int .i64 0] 3)) 85 (.pointer (some ⟨p,o,none⟩));rw [World.size_alloc] at bN;have hB0:Below w.heap.size w ((w.alloc (.cells #[.int .i64 0] 3)).alloc (.cells #[.pointer (some ⟨p,o,none⟩)] 85)):=((Below.refl _ w).alloc (Nat.le_refl _) _).alloc (by simp) _;refine wpIn_rangeFunc_ownF rfl (by decide) (gf:=103) (lb:= #[.pointer (some ⟨w.heap.size+1,0,none⟩)]) rfl trivial (enters_of Tryz.func103 (by kernel_rfl) rfl)
  (rows_stops Fence.wide _ trivial rfl (by decide) (w.heap.size+1) p o g L _ bN.cell ((HM.out.alloc _).alloc _)) jA (rZ (fun k hk=>by rcases hk with rfl|rfl|rfl<;>simp<;>omega)) (Below.refl _ _) (fun _=>rfl)
  (fun pre W=>(W.cell? ⟨w.heap.size,0,none⟩=some (.int .i64 (nP pre:Nat))∧W.frozen? ⟨w.heap.size,0,none⟩=false)∧Below w.heap.size w W)
  (fun _ _ _=>False)
  (OwnFrom.and (Own.from (fun s A B row hs hg hr=>⟨cell_kept hs.1 hg hr,(frozen_kept hs.1 hg hr).trans hs.2⟩) _) (ownFrom_below (Nat.le_refl _) (by simp;omega)))
  (fun _ _ _ _ _ hs _ _=>hs)
  ⟨⟨(bS.alloc _).cell,(bS.alloc _).frozen⟩,hB0⟩
  (fun x=>{tmps:= #[.pointer (some ⟨p,o,none⟩),undef, .int .i64 0, .pointer (some ⟨w.heap.size,0,none⟩),undef, .int .i64 (x.1.2:Int), .pointer (some ⟨p,o,none⟩), .func (.func 103) #[] #[.pointer (some ⟨w.heap.size+1,0,none⟩)], .int .i64 (x.1.1:Int), .int .i64 (x.1.2:Int),undef,undef,undef,undef],defers:= []}) ?assign ?body ?done ?stop
 case assign=>
  intro l x W K hK
  gi_wp2
  exact hK
 case body=>
  rintro l pre x W ⟨⟨hc,hf⟩,hB⟩ hlen;have h1:=Oq pre;have h2:=x.2.2;have HS:=Lib.hid (Gg pre x);obtain ⟨s,hs⟩: ∃s,nP pre=s:=⟨_,rfl⟩;rw [hs] at hc h1 HS;obtain ⟨⟨xa,xn⟩,Hu⟩:=x;have hsb:s≤70000:=by omega
  have h2':xn≤256:=h2;have HB:=Lib.hid hB;have HC:=Lib.hid hc;clear hs h1 hlen hB
  gi_wp2
  exact ⟨KeepsOthers.setCell _ _ _,(Keeps.refl _ _).setCell (by rintro (h|h|h)<;>simp at h<;>omega) _,⟨by rw [HS.out];exact World.cell?_setCell_same' _ _ _ (by rw [HC.out];rfl),by rw [World.frozen?_setCell];exact hf⟩,HB.out.setCell (p:=⟨w.heap.size,0,none⟩) (Nat.le_refl _) _⟩
 case done=>
  rintro D ys W hD hS ⟨⟨hc,_⟩,hB⟩ hK;rw [KR hS] at hc
  gi_wp2
  refine ⟨by simp, .inl ⟨_,_,rfl,run_takeDeferred hK, ?_⟩⟩;exact ⟨_,results_tmp rfl _ _ _,rfl,hB.trans (belowK_b (w:=w) (Nat.le_refl _) W D _ _ (by simp at hD;omega) hK rfl rfl)⟩
 case stop=>
  rintro D c pre W _ _ h _;exact h.elim
theorem Es {w:World} {p o g:Nat} {L:List Bool} (hm:aU w p o g L):
 Calls Tryz.prog 29 #[.pointer (some ⟨p,o,none⟩)] w fun e W'=>e= .returned (.int .i64 (aj.left L:Nat))∧Below w.heap.size w W':=callsIn_wide.1 (Ud p o g L w hm)
end Go.Proofs.YtpibbcnkgdmcbaaGreatDoor.Mk
namespace Go.Proofs.YtpibbcnkgdmcbaaGreatDoor.Mk
open Go.RowKit Go.Shelf
attribute [local go_sem] Oper.semAt_some
def tJ (L:List Bool) (k:Int):Prop:=1≤k∧k≤(L.length:Int)
instance (L:List Bool) (k:Int):Decidable (tJ L k):=inferInstanceAs (Decidable (_∧_))
def takeA (L:List Bool) (k:Int):Int:=if tJ L k then (match aj.low L k.toNat with|some a=>(a:Int)|none=>0) else 0
def jQ (L:List Bool) (k:Int):Int:=if tJ L k then (match aj.low L k.toNat with|some _=>0|none=>4) else 2
def rF (L:List Bool) (k:Int):List Bool:=if tJ L k then (match aj.low L k.toNat with|some a=>aj.setAt L a k.toNat true|none=>L) else L
theorem Od {L:List Bool} {k:Int} (h: ¬tJ L k):takeA L k=0∧jQ L k=2∧rF L k=L:=by unfold takeA jQ rF;simp [h]
theorem Ar {L:List Bool} {k:Nat} (h1:1≤k) (h2:k≤L.length):tJ L (k:Int):=⟨by omega,by omega⟩
theorem tZ {L:List Bool} {k:Nat} (h1:1≤k) (h2:k≤L.length) (h:aj.low L k=none):takeA L k=0∧jQ L k=4∧rF L k=L:=by
 unfold takeA jQ rF;simp [Ar h1 h2,h]
theorem xw {L:List Bool} {k a:Nat} (h1:1≤k) (h2:k≤L.length) (h:aj.low L k=some a):takeA L k=a∧jQ L k=0∧rF L k=aj.setAt L a k true:=by
 unfold takeA jQ rF;simp [Ar h1 h2,h]
theorem pU {A B:World} {row:Option Nat} (hg:A.grownBy B row) (hr: ∀r,row=some r→ ∃o:Obj,A.heap[r]? =some o∧o.isCells=false) {b:Nat} {t:TypeId} {cs:Array Value} (hb:aV A b t cs):aV B b t cs:=
 (grownBy_keeps_cells hg hr hb rfl).trans hb
theorem oM {β:Type} (p o g:Nat) (f:β→List Bool):Own (fun s W=>aU W p o g (f s)):=fun s X Y row hs hg hr=>
 ⟨cell_kept hs.head hg hr,pU hg hr hs.row,hs.ne,hs.pos,hs.big⟩
theorem rA {β:Type} {S:Nat→Prop} {B:Nat} {w:World} (hB:w.heap.size≤B):OwnFrom B (fun (_:β) W=>aH S w W):=fun _ X Y row hs hg hr=>
 hs.grown hg fun k e=> .inr (Nat.le_trans hB (hr k e).1)
theorem lU {β:Type} (φ:β→Prop):Own (fun s (_:World)=>φ s):=fun s X Y row hs _ _=>hs
theorem gF {β:Type} {I I':β→World→Prop} (h:Own I) (h':Own I'):Own (fun s W=>I s W∧I' s W):=fun s X Y row hs hg hr=>⟨h s X Y row hs.1 hg hr,h' s X Y row hs.2 hg hr⟩
theorem Pw {β γ:Type} {I:γ→β→World→Prop} (h: ∀y,Own (I y)):Own (fun s W=> ∃y,I y s W):=fun s X Y row ⟨y,hs⟩ hg hr=>⟨y,h y s X Y row hs hg hr⟩
theorem _root_.Go.Proofs.YtpibbcnkgdmcbaaGreatDoor.aH.others {w w':World} {g:Nat} {t:TypeId} {cs:Array Value} (h:aH (fun k=>k=g) w w') (hg:aV w g t cs):KeepsOthers w w':=
 ⟨h.size,fun k o hk ho=>(h.block k (Array.getElem?_eq_some_iff.1 hk).1 (fun e=>by
  subst e;rw [show w.heap[k]? =_ from hg] at hk;cases hk;cases ho)).trans hk⟩
theorem _root_.Go.Proofs.YtpibbcnkgdmcbaaGreatDoor.aH.putObj {S:Nat→Prop} {a w:World} (h:aH S a w) (l:Nat) (o:Obj) (hl:a.heap.size≤l):aH S a (w.putObj l o):=h.grown (grownBy_putObj' w l o) fun k e=>by cases e;exact .inr hl
theorem A8 {S:Nat→Prop} {w w':World} {B:Nat} {t:TypeId} {v:Value} (h:Boxed w B t v) (u:aH S w w') (hs: ¬S B):Boxed w' B t v:=aV.upd (cs:= #[v]) h u hs
theorem jU {w:World} {B:Nat} {t:TypeId} {v:Value} (h:Boxed w B t v) (l:Nat) (o:Obj) (hne:B≠l):Boxed (w.putObj l o) B t v:=h.kept (grownBy_putObj' w l o) (fun e=>hne (by cases e;rfl))
theorem aU.putObj {w:World} {p o g:Nat} {L:List Bool} (h:aU w p o g L) {l:Nat} {x:Obj} (y:Obj) (hl:w.heap[l]? =some x) (hx:x.isCells=false):aU (w.putObj l y) p o g L:=
 oM (β:=Unit) p o g (fun _=>L) () _ _ (some l) h (grownBy_putObj' w l y) (fun r e=>by cases e;exact ⟨x,hl,hx⟩)
theorem aU.setCell {w:World} {p o g:Nat} {L:List Bool} (h:aU w p o g L) {a:Addr} (hp:p≠a.block) (hg:g≠a.block) (v:Value):aU (w.setCell a v) p o g L:=
 ⟨(World.cell?_of_block (w:=w) (Below.heap_setCell w a v p hp)).trans h.head,(Below.heap_setCell w a v g hg).trans h.row,h.ne,h.pos,h.big⟩
theorem ZT (w:World) (v0 v1 v2 v3:Value) (t0 t1 t2 t3:TypeId): ∃W,(((w.alloc (.cells #[v0] t0)).alloc (.cells #[v1] t1)).alloc (.cells #[v2] t2)).alloc (.cells #[v3] t3)=W∧Boxed W w.heap.size t0 v0∧Boxed W (w.heap.size+1) t1 v1∧Boxed W (w.heap.size+1+1) t2 v2∧Boxed W (w.heap.size+1+1+1) t3 v3∧
 W.heap.size=w.heap.size+1+1+1+1∧aH (fun _=>False) w W:=by
 refine ⟨_,rfl,(((Boxed.new w _ _).alloc _).alloc _).alloc _, ?_, ?_, ?_,by simp,((((aH.refl _ w).alloc _).alloc _).alloc _).alloc _⟩
 · have:=((Boxed.new (w.alloc (.cells #[v0] t0)) t1 v1).alloc (.cells #[v2] t2)).alloc (.cells #[v3] t3)
   rwa [World.size_alloc] at this
 · have:=(Boxed.new ((w.alloc (.cells #[v0] t0)).alloc (.cells #[v1] t1)) t2 v2).alloc (.cells #[v3] t3)
   rwa [World.size_alloc,World.size_alloc] at this
 · have:=Boxed.new (((w.alloc (.cells #[v0] t0)).alloc (.cells #[v1] t1)).alloc (.cells #[v2] t2)) t3 v3
   rwa [World.size_alloc,World.size_alloc,World.size_alloc] at this
theorem vO {S:Nat→Prop} {a w:World} (h:aH S a w) (n:Nat):aH S a (w.drewN n):=h.trans ⟨rfl,rfl,rfl,Nat.le_refl _,fun _ _ _=>rfl⟩
def CU (w:World) (p o g:Nat) (L:List Bool) (k:Nat) (pre:List Row) (W:World):Prop:=
 ((∀y∈pre,¬k≤y.1.2)∧Boxed W w.heap.size 85 (.pointer (some ⟨p,o,none⟩))∧Boxed W (w.heap.size+1) 3 (.int .i64 (k:Int))∧Boxed W (w.heap.size+1+1) 3 (.int .i64 0)∧Boxed W (w.heap.size+1+1+1) 25 (.int .i64 0)∧aU W p o g L)∧aH (fun k=>k=g) w W
def Kr (w:World) (p o g:Nat) (L:List Bool) (k:Nat) (c:Code) (pre:List Row) (W:World):Prop:=
 (c= .ret∧ ∃x:List Row×Row,pre=x.1++ [x.2]∧(∀y∈x.1,¬k≤y.1.2)∧k≤x.2.1.2∧Boxed W (w.heap.size+1+1) 3 (.int .i64 (x.2.1.1:Int))∧Boxed W (w.heap.size+1+1+1) 25 (.int .i64 (nV true 6 L (x.2.1.1:Int) (k:Int)))∧aU W p o g (nU true L (x.2.1.1:Int) (k:Int)))∧aH (fun k=>k=g) w W
theorem xA {w:World} {B:Nat} (hB:w.heap.size≤B) (p o g:Nat) (L:List Bool) (k:Nat):OwnFrom B (CU w p o g L k):=
 OwnFrom.and (Own.from (gF (lU _) (gF (boxed_own _ _ _) (gF (boxed_own _ _ _) (gF (boxed_own _ _ _) (gF (boxed_own _ _ _) (oM _ _ _ _)))))) _) (rA hB)
theorem Dk {w:World} {B:Nat} (hB:w.heap.size≤B) (p o g:Nat) (L:List Bool) (k:Nat) (c:Code):OwnFrom B (Kr w p o g L k c):=
 OwnFrom.and (Own.from (gF (lU _) (Pw fun x=>gF (lU _) (gF (lU _) (gF (lU _) (gF (boxed_own _ _ _) (gF (boxed_own _ _ _) (oM _ _ _ _))))))) _) (rA hB)
theorem LQ {L:List Bool} {k:Nat} {ini:List Row} {x:Row} (h:X8 L (ini++ [x])) (hn: ∀y∈ini,¬k≤y.1.2) (hx:k≤x.1.2):aj.low L k=some x.1.1:=by
 obtain ⟨t,ht⟩:=h;unfold aj.low;rw [←ht,List.map_append,List.append_assoc,List.find?_append];have e:(ini.map (·.1)).find? (fun y=>decide (k≤y.2))=none:=by
  rw [List.find?_eq_none];intro y hy;obtain ⟨z,hz,rfl⟩:=List.mem_map.1 hy
  simpa using hn z hz
 rw [e];simp [hx]
theorem El {L:List Bool} {k:Nat} {xs:List Row} (h:jW L xs) (hn: ∀y∈xs,¬k≤y.1.2):aj.low L k=none:=by
 unfold aj.low;rw [←h,Option.map_eq_none_iff,List.find?_eq_none];intro y hy;obtain ⟨z,hz,rfl⟩:=List.mem_map.1 hy
 simpa using hn z hz
theorem SN (p o g:Nat) (L:List Bool) (k:Nat) (w:World) (hm:aU w p o g L) (hk1:1≤k) (hk2:k≤L.length):
 CallsIn Fence.wide 5 Tryz.prog 38 #[.pointer (some ⟨p,o,none⟩), .int .i64 (k:Int)] w
  (Wrote w p o g (rF L k) (.tuple #[.int .i64 (takeA L k), .int .i64 (jQ L k)])):=by
 have hp:=hm.lt;have hg:=hm.row.lt;have hbig:=hm.big;have hd:=hm.head;have HM:=Lib.hid hm;clear hm;refine callsIn_of_wp_marks Tryz.func38 rfl trivial ?_ rfl;simp only [Tryz.ntmps38,List.size_toArray,List.length_cons,List.length_nil,Nat.reduceAdd,Nat.reduceSub,Array.replicate_succ,Array.replicate_zero,List.push_toArray,List.append_toArray,List.nil_append,List.cons_append];refine wpIn_wide.2 ?_;have g0:decide ((k:Int)<1)=false:=decide_eq_false (by omega);have g1:decide (L.length<k)=false:=decide_eq_false (by omega);go_wp2;obtain ⟨W0,hW0,b2,b3,b4,b5,s0,u0⟩:=ZT w (.pointer (some ⟨p,o,none⟩)) (.int .i64 (k:Int)) (.int .i64 0) (.int .i64 0) 85 3 3 25;rw [hW0];have I0:CU w p o g L k [] W0:=⟨⟨by simp,b2,b3,b4,b5,HM.out.upd u0 id id⟩,u0.mono (fun _ x=>x.elim)⟩;clear b2 b3 b4 b5 u0;clear hW0;have c2:W0.cell? ⟨w.heap.size,0,none⟩=some (.pointer (some ⟨p,o,none⟩)):=I0.1.2.1.cell;have c3:W0.cell? ⟨w.heap.size+1,0,none⟩=some (.int .i64 (k:Int)):=I0.1.2.2.1.cell;have cd:W0.cell? ⟨p,o,none⟩=some (.slice (some ⟨g,0,none⟩) L.length L.length):=I0.1.2.2.2.2.2.head;have II:=Lib.hid I0;have S0:=Lib.hid s0;clear I0 s0;go_quiet (fail)
 clear g0 g1;go_wp2_with (go_at_call 64;refine (callsIn_wide.1 (rows_in Fence.wide 5 trivial rfl _ _)).mono ?_;rintro e w' ⟨rfl,rfl⟩)
 have abp:=S0.out;have bN:=Boxed.new (W0.drewN nq) 85 (.pointer (some ⟨p,o,none⟩));obtain ⟨W1,hW1⟩: ∃W1,(W0.drewN nq).alloc (.cells #[.pointer (some ⟨p,o,none⟩)] 85)=W1:=⟨_,rfl⟩;have I1:CU w p o g L k [] W1:=by
  rw [←hW1];refine (xA (Nat.le_refl _) p o g L k).alloc _ ?_;obtain ⟨⟨h1,h2,h3,h4,h5,h6⟩,h7⟩:=II.out;exact ⟨⟨h1,h2,h3,h4,h5,⟨h6.head,h6.row,h6.ne,h6.pos,h6.big⟩⟩,⟨h7.os,h7.tape,h7.output,h7.size,h7.block⟩⟩
 have s1:W1.heap.size=W0.heap.size+1:=by rw [←hW1];simp [World.drewN]
 rw [hW1] at bN⊢;clear hW1 c2 c3 cd;have hs1:w.heap.size≤W1.heap.size:=by omega
 have BN:Hid (Boxed W1 W0.heap.size 85 (.pointer (some ⟨p,o,none⟩))):=Lib.hid bN;have I1':=Lib.hid I1;have S1:=Lib.hid s1;clear bN I1 s1 abp;refine wpIn_wide (n:=5).1 ?_;refine wpIn_rangeFunc_ownF rfl (by decide) (gf:=103) (lb:= #[.pointer (some ⟨W0.heap.size,0,none⟩)]) rfl trivial (enters_of Tryz.func103 (by kernel_rfl) rfl)
  (rows_stops Fence.wide _ trivial rfl (by decide) W0.heap.size p o g L W1 BN.out.cell I1'.out.1.2.2.2.2.2) jA (rZ (fun k hk=>by have:=S1.out;rcases hk with rfl|rfl|rfl<;>omega)) (Below.refl _ _) (fun _=>rfl)
  (CU w p o g L k) (Kr w p o g L k) (xA hs1 p o g L k) (Dk hs1 p o g L k) I1'.out
  (fun x=>{tmps:= #[.pointer (some ⟨p,o,none⟩), .int .i64 (k:Int), .pointer (some ⟨w.heap.size,0,none⟩), .pointer (some ⟨w.heap.size+1,0,none⟩), .pointer (some ⟨w.heap.size+1+1,0,none⟩), .pointer (some ⟨w.heap.size+1+1+1,0,none⟩), .int .i64 (x.1.1:Int), .int .i64 (x.1.2:Int),
   .pointer (some ⟨p,o,none⟩), .bool false, .int .i64 (k:Int), .bool false, .bool false, .int .i64 (k:Int), .pointer (some ⟨p,o,none⟩), .pointer (some ⟨p,o,none⟩), .pointer (some ⟨p,o,none⟩), .slice (some ⟨g,0,none⟩) L.length L.length, .int .i64 (L.length:Int), .bool false, .bool false,
   .pointer (some ⟨p,o,none⟩), .func (.func 103) #[] #[.pointer (some ⟨W0.heap.size,0,none⟩)], .int .i64 (x.1.1:Int), .int .i64 (x.1.2:Int),undef,undef,undef,undef,undef,undef,undef,undef],defers:= []}) ?assign ?body ?done ?stop
 case assign=>
  intro l x W K hK
  gi_wp2
  exact hK
 case body=>
  rintro l pre x W ⟨⟨hn,b2,b3,b4,b5,hm⟩,hu⟩ hlen;have c2:=b2.cell;have c3:=b3.cell;obtain ⟨⟨xa,xn⟩,Hu⟩:=x;have hxa:xa≤256:=Hu.1;have hxn:xn≤256:=Hu.2;have HN:=Lib.hid hn;have B2:=Lib.hid b2;have B3:=Lib.hid b3;have B4:=Lib.hid b4;have B5:=Lib.hid b5;have M:=Lib.hid hm;have U:=Lib.hid hu;clear hn b2 b3 b4 b5 hm hu hlen;by_cases hx:k≤xn
  · have HC:=Lib.hid (Eh M.out (xa:Int) (k:Int) (gy.wf ⟨by omega,by omega⟩) (gy.wf ⟨by omega,by omega⟩))
    gi_wp2_with fail
    refine ⟨trivial, ?_⟩;refine (CallsIn.inRound l (callsIn_wide.2 HC.out)).mono ?_;rintro e W2 ⟨rfl,hm2,hu2⟩;have M2:=Lib.hid hm2;have U2:=Lib.hid hu2;have d4:=Lib.hid (A8 B4.out hu2 (Nat.ne_of_gt (by omega)));have d5:=Lib.hid (A8 B5.out hu2 (Nat.ne_of_gt (by omega)));have f4:=d4.out.cell;have f4':=d4.out.frozen;have f5:=d5.out.cell;have f5':=d5.out.frozen;clear hm2 hu2
    gi_wp2
    refine ⟨(U2.out.others M.out.row).trans ((KeepsOthers.setCell _ _ _).trans (KeepsOthers.setCell _ _ _)),⟨rfl,(pre,⟨(xa,xn),Hu⟩),rfl,HN.out,hx, ?_, ?_, ?_⟩, ?_⟩
    · exact (d4.out.set _).other (by omega) _
    · exact (d5.out.other (by omega) _).set _
    · exact (M2.out.setCell (Nat.ne_of_lt (by simp only;omega)) (Nat.ne_of_lt (by simp only;omega)) _).setCell (Nat.ne_of_lt (by simp only;omega)) (Nat.ne_of_lt (by simp only;omega)) _
    · exact ((U.out.trans U2.out).setCell (.inr (by simp only;omega)) _).setCell (.inr (by simp only;omega)) _
  · have hx':xn<k:=by omega
    clear hx
    gi_wp2
    refine ⟨KeepsOthers.refl _,Keeps.refl _ _,⟨?_,B2.out,B3.out,B4.out,B5.out,M.out⟩,U.out⟩;intro y hy;rcases List.mem_append.1 hy with hy|hy
    · exact HN.out y hy
    · obtain rfl:=List.mem_singleton.1 hy
      exact Nat.not_le_of_lt hx'
 case done=>
  rintro D xs W hD hS ⟨⟨hn,b2,b3,b4,b5,hm⟩,hu⟩ hK;have hsz:=S1.out;have h0:=S0.out;obtain ⟨e1,e2,e3⟩:=tZ hk1 hk2 (El hS hn);have f4:=b4.cell;have f4':=b4.frozen;have f5:=b5.cell;have f5':=b5.frozen;have HD:=Lib.hid (show w.heap.size+1+1+1<D by omega);have E:=Lib.hid (And.intro e1 (And.intro e2 e3));have B4:=Lib.hid b4;have B5:=Lib.hid b5;have M:=Lib.hid hm;have U:=Lib.hid hu;have KK:=Lib.hid hK;clear e1 e2 e3 hsz h0 b2 b3 b4 b5 hm hu hK hn hS hD;go_wp2;have hD:=HD.out;have hK':=((KeepsOthers.setCell W ⟨w.heap.size+1+1,0,none⟩ (.int .i64 0)).trans (KeepsOthers.setCell _ ⟨w.heap.size+1+1+1,0,none⟩ (.int .i64 4))).same D _ KK.out rfl;have q4:=(jU ((B4.out.set (.int .i64 0)).other (show w.heap.size+1+1≠w.heap.size+1+1+1 by omega) (.int .i64 4)) D (.deferred none) (by omega)).cell;have q5:=(jU ((B5.out.other (show w.heap.size+1+1+1≠w.heap.size+1+1 by omega) (.int .i64 0)).set (.int .i64 4)) D (.deferred none) (by omega)).cell;obtain ⟨e1,e2,e3⟩:=E.out;rw [e1,e2,e3];refine ⟨by simp, .inl ⟨_,_,rfl,run_takeDeferred hK', ?_⟩⟩;refine ⟨.tuple #[.int .i64 0, .int .i64 4],by simp [results,Tryz.f38,go_sem,q4,q5],rfl, ?_, ?_⟩
  · exact ((M.out.setCell (Nat.ne_of_lt (by simp only;omega)) (Nat.ne_of_lt (by simp only;omega)) _).setCell (Nat.ne_of_lt (by simp only;omega)) (Nat.ne_of_lt (by simp only;omega)) _).putObj _ hK' rfl
  · exact ((U.out.setCell (.inr (by simp only;omega)) _).setCell (.inr (by simp only;omega)) _).putObj D _ (by omega)
 case stop=>
  rintro D c pre W hD hSp ⟨⟨rfl,⟨ini,x⟩,rfl,hn,hx,b4,b5,hm⟩,hu⟩ hK;have hsz:=S1.out;have h0:=S0.out;have hlow:=LQ hSp hn hx;have hfree:=(aj.jc hk1 hlow).1;obtain ⟨e1,e2,e3⟩:=xw hk1 hk2 hlow;rw [pG hk1 hfree] at b5;rw [pF hk1 hfree] at hm;have q4:=(jU b4 D (.deferred none) (by omega)).cell;have q5:=(jU b5 D (.deferred none) (by omega)).cell;have m2:=hm.putObj (.deferred none) hK rfl;have u2:=hu.putObj D (.deferred none) (by omega);rw [e1,e2,e3];have E:=Lib.hid (And.intro hK (And.intro q4 (And.intro q5 (And.intro m2 u2))));clear e1 e2 e3 hlow hfree hn hx b4 b5 hm hu hK hsz h0 hSp q4 q5 m2 u2;refine wpIn_wide.2 ?_;go_wp2;obtain ⟨hK,q4,q5,m2,u2⟩:=E.out;refine ⟨by simp, .inl ⟨_,_,rfl,run_takeDeferred hK, ?_⟩⟩;exact ⟨.tuple #[.int .i64 (x.1.1:Int), .int .i64 0],by simp [results,Tryz.f38,go_sem,q4,q5],rfl,m2,u2⟩
theorem Oe {w:World} {p o g:Nat} {L:List Bool} (hm:aU w p o g L) (k:Int) (hk: ¬tJ L k):
 Calls Tryz.prog 38 #[.pointer (some ⟨p,o,none⟩), .int .i64 k] w fun e w'=>e= .returned (.tuple #[.int .i64 0, .int .i64 2])∧aH (fun _=>False) w w':=by
 have hd:=hm.head;have hp:=hm.lt;have hbig:=hm.big;clear hm;obtain ⟨W0,hW0,b2,b3,b4,b5,s0,u0⟩:=ZT w (.pointer (some ⟨p,o,none⟩)) (.int .i64 k) (.int .i64 0) (.int .i64 0) 85 3 3 25;have c2:=b2.cell;have c3:=b3.cell;have c4:=b4.cell;have c5:=b5.cell;have f4:=b4.frozen;have f5:=b5.frozen;have cd:W0.cell? ⟨p,o,none⟩=some (.slice (some ⟨g,0,none⟩) L.length L.length):=(World.cell?_of_block (w:=w) (u0.block p hp id)).trans hd;have HW:=Lib.hid hW0;have S0:=Lib.hid s0;have U0:=Lib.hid u0;clear hW0 s0 u0 b2 b3 b4 b5 hd;unfold tJ at hk;by_cases h1:k<1
 · have g0:decide (k<1)=true:=decide_eq_true h1
   clear hk;go_enter Tryz.func38,Tryz.ntmps38
   go_wp2;rw [HW.out];go_quiet (fail)
   clear g0 h1;go_wp2;refine bodyPost_ret (v:= .tuple #[.int .i64 0, .int .i64 2]) (by simp [results,Tryz.results38,go_sem,c4,c5]) rfl ⟨rfl, ?_⟩;exact ((vO U0.out nq).setCell (.inr (by simp only;omega)) _).setCell (.inr (by simp only;omega)) _
 · have g0:decide (k<1)=false:=decide_eq_false h1
   have g1:decide ((L.length:Int)<k)=true:=decide_eq_true (by omega);clear hk;go_enter Tryz.func38,Tryz.ntmps38
   go_wp2;rw [HW.out];go_quiet (fail)
   clear g0 g1 h1;go_wp2;refine bodyPost_ret (v:= .tuple #[.int .i64 0, .int .i64 2]) (by simp [results,Tryz.results38,go_sem,c4,c5]) rfl ⟨rfl, ?_⟩;exact ((vO U0.out nq).setCell (.inr (by simp only;omega)) _).setCell (.inr (by simp only;omega)) _
theorem rE {w:World} {p o g:Nat} {L:List Bool} (hm:aU w p o g L) (k:Int):
 Calls Tryz.prog 38 #[.pointer (some ⟨p,o,none⟩), .int .i64 k] w (Wrote w p o g (rF L k) (.tuple #[.int .i64 (takeA L k), .int .i64 (jQ L k)])):=by
 by_cases hk:tJ L k
 · obtain ⟨h1,h2⟩:=hk
   obtain ⟨k,rfl⟩:=Int.eq_ofNat_of_zero_le (show 0≤k by omega);exact callsIn_wide.1 (SN p o g L k w hm (by omega) (by omega))
 · refine (Oe hm k hk).mono ?_
   rintro e w' ⟨rfl,hu⟩;obtain ⟨e1,e2,e3⟩:=Od hk;exact ⟨by rw [e1,e2],by rw [e3];exact hm.upd hu id id,hu.mono (fun _ x=>x.elim)⟩
end Go.Proofs.YtpibbcnkgdmcbaaGreatDoor.Mk
