/- Mems12: texts of layers below, joined (Mem1 Mem2 Mem3 MemW). -/
import Derived.Test.YtpibbcnkgdmcbaaGreatDoorBlk
import Derived.Test.YtpibbcnkgdmcbaaGreatDoorRows
import Derived.WalkKit
import Derived.WalkSpells
import Derived.WalkLawsBesides
import Derived.Outline
import Derived.Lib.Hide
import Derived.Deep.QuietTactic
import Derived.BigQuiet
import Derived.Deep.RegionLaw
import Derived.IntWalk
set_option linter.unusedVariables false
set_option maxRecDepth 100000
set_option maxHeartbeats 400000
namespace Go.Proofs.YtpibbcnkgdmcbaaGreatDoor
open Go.RowKit
structure bC (w:World) (p g:Nat) (L:List Nat):Prop where
 head:aV w p 104 #[.slice (some ⟨g,0,none⟩) L.length L.length]
 row:Bytes w 5 g L
 XA:ay.lC L
 big:L.length≤1048576
theorem bC.upd {S:Nat→Prop} {w w':World} {p g:Nat} {L:List Nat} (h:bC w p g L) (u:aH S w w') (hp: ¬S p) (hg: ¬S g):bC w' p g L:=⟨h.head.upd u hp,h.row.upd u hg,h.XA,h.big⟩
theorem bC.ne {w:World} {p g:Nat} {L:List Nat} (h:bC w p g L):p≠g:=aV.ne h.head h.row (by decide)
theorem bC.written {w w':World} {p g:Nat} {L M:List Nat} (h:bC w p g L) (u:aH (fun k=>k=g) w w') (hr:Bytes w' 5 g M) (hl:M.length=L.length) (hb:ay.lC M):bC w' p g M:=
 ⟨by rw [hl];exact h.head.upd u h.ne,hr,hb,by rw [hl];exact h.big⟩
theorem OA (w:World):(sizeOf (Tryz.prog.elem 102)).run Tryz.prog w= .ok 1 w:=by kernel_rfl
theorem Za:(Tryz.prog.info? 5).map (fun i=>(i.zero,i.size,i.bytes))=some (some (.int .u8 0),1,1):=by kernel_rfl
theorem Qf:(Tryz.prog.info? 5).map (·.size)=some 1:=by kernel_rfl
theorem Yv (w:World):(zeroValue 5).run Tryz.prog w= .ok (.int .u8 0) w:=by kernel_rfl
theorem lJ {w:World} {p g:Nat} {L:List Nat} (h:bC w p g L):
 Calls Tryz.prog 154 #[.pointer (some ⟨p,0,none⟩)] w fun e w'=>e= .returned (.int .u64 (L.length:Int))∧w=w':=by
 have hb:=h.big;have hc:w.cell? ⟨p,0,none⟩=some (.slice (some ⟨g,0,none⟩) L.length L.length):=h.head.cell 0;clear h;go_enter Tryz.func154,Tryz.ntmps154
 go_wp2;go_ret;exact ⟨rfl,rfl⟩
theorem pK {w:World} {p g:Nat} {L:List Nat} (h:bC w p g L) (addr n:Nat) (hn:addr+n≤L.length):
 ∃o,(0<n→o=addr)∧Calls Tryz.prog 134 #[.pointer (some ⟨p,0,none⟩), .int .u64 (addr:Int), .int .u64 (n:Int)] w fun e w'=>e= .returned (.tuple #[.slice (some ⟨g,o,none⟩) n (L.length-addr), .int .i64 0])∧w=w':=by
 have hb:=h.big;obtain ⟨o,ho,hr⟩:=nX (P:=Tryz.prog) 102 Tryz.underlying102 OA .u64 .u64 g 0 L.length L.length addr (addr+n) (by omega) hn;rw [show ((addr+n:Nat):Int)=(addr:Int)+(n:Int) by omega,show addr+n-addr=n by omega] at hr;refine ⟨o,fun h=>by rw [ho (by omega)];omega, ?_⟩;have HS:=Lib.hid (lJ h);have hc:w.cell? ⟨p,0,none⟩=some (.slice (some ⟨g,0,none⟩) L.length L.length):=h.head.cell 0;clear h ho;go_enter Tryz.func134,Tryz.ntmps134
 go_wp2_with (go_at_call 154;refine HS.out.mono ?_;rintro e w' ⟨rfl,rfl⟩)
 go_ret2
 exact ⟨rfl,rfl⟩
theorem xV {w:World} {p g:Nat} {L:List Nat} (h:bC w p g L) (addr n:Nat) (hn:L.length<addr+n):
 Calls Tryz.prog 134 #[.pointer (some ⟨p,0,none⟩), .int .u64 (addr:Int), .int .u64 (n:Int)] w fun e w'=>e= .returned (.tuple #[.slice none 0 0, .int .i64 3])∧w=w':=by
 have hb:=h.big;have HS:=Lib.hid (lJ h);clear h;by_cases ha:L.length<addr
 · go_enter Tryz.func134,Tryz.ntmps134
   go_wp2_with (go_at_call 154;refine HS.out.mono ?_;rintro e w' ⟨rfl,rfl⟩)
   go_ret2
   exact ⟨rfl,rfl⟩
 · have ha':addr≤L.length:=by omega
   have hn':(L.length:Int)-(addr:Int)<(n:Int):=by omega
   clear ha;go_enter Tryz.func134,Tryz.ntmps134
   go_wp2_with (go_at_call 154;refine HS.out.mono ?_;rintro e w' ⟨rfl,rfl⟩)
   go_ret2
   exact ⟨rfl,rfl⟩
def W4 (n:Nat):Prop:=n=1∨n=2∨n=4∨n=8
theorem OT {a b:Bool} (h:a=b):Ending.returned (.bool a)= .returned (.bool b):=by rw [h]
theorem UJ (x d:Nat) (hd:0<d):((x:Int)/(d:Int)==0)=decide (x<d):=by
 rw [Bool.eq_iff_iff,beq_iff_eq,decide_eq_true_iff,←Int.natCast_ediv];have:=Nat.div_eq_zero_iff_lt (x:=x) hd;omega
theorem JO (n x:Nat) (h:W4 n) (_:x≤18446744073709551615) (w:World):
 Calls Tryz.prog 180 #[.int .i64 (n:Int), .int .u64 (x:Int)] w fun e w'=>e= .returned (.bool (decide (x<256^n)))∧w=w':=by
 rcases h with rfl|rfl|rfl|rfl
 all_goals
  go_enter Tryz.func180,Tryz.ntmps180
  go_wp2;go_ret;exact ⟨OT (UJ x _ (by decide)),rfl⟩
theorem Jl {w:World} {p g:Nat} {L:List Nat} (h:bC w p g L) (addr n x:Nat) (h4:W4 n) (hx:x<256^n) (hx':x≤18446744073709551615) (hn:addr+n≤L.length):
 Calls Tryz.prog 161 #[.pointer (some ⟨p,0,none⟩), .int .u64 (addr:Int), .int .i64 (n:Int), .int .u64 (x:Int)] w fun e w'=>e= .returned (.tuple #[.slice (some ⟨g,addr,none⟩) n (L.length-addr), .int .i64 0])∧w=w':=by
 have hb:=h.big;have h1:1≤n:=by rcases h4 with rfl|rfl|rfl|rfl<;>decide
 have h8:n≤8:=by rcases h4 with rfl|rfl|rfl|rfl<;>decide
 obtain ⟨o,ho,hc⟩:=pK h addr n hn;obtain rfl:=ho (by omega);have hm:=JO n x h4 hx' w;rw [decide_eq_true hx] at hm;have HC:=Lib.hid hc;have HM:=Lib.hid hm;clear hc hm h hx h4;go_enter Tryz.func161,Tryz.ntmps161
 go_wp2_with (first|(go_at_call 180;refine HM.out.mono ?_;rintro e w' ⟨rfl,rfl⟩)|(go_at_call 134;refine HC.out.mono ?_;rintro e w' ⟨rfl,rfl⟩))
 go_ret2
 exact ⟨rfl,rfl⟩
theorem C_ {w:World} {p g:Nat} {L:List Nat} (h:bC w p g L) (addr n x:Nat) (h4:W4 n) (hx:x<256^n) (hx':x≤18446744073709551615) (hn:L.length<addr+n):
 Calls Tryz.prog 161 #[.pointer (some ⟨p,0,none⟩), .int .u64 (addr:Int), .int .i64 (n:Int), .int .u64 (x:Int)] w fun e w'=>e= .returned (.tuple #[.slice none 0 0, .int .i64 3])∧w=w':=by
 have hb:=h.big;have h1:1≤n:=by rcases h4 with rfl|rfl|rfl|rfl<;>decide
 have h8:n≤8:=by rcases h4 with rfl|rfl|rfl|rfl<;>decide
 have hc:=xV h addr n hn;have hm:=JO n x h4 hx' w;rw [decide_eq_true hx] at hm;have HC:=Lib.hid hc;have HM:=Lib.hid hm;clear hc hm h hx h4;go_enter Tryz.func161,Tryz.ntmps161
 go_wp2_with (first|(go_at_call 180;refine HM.out.mono ?_;rintro e w' ⟨rfl,rfl⟩)|(go_at_call 134;refine HC.out.mono ?_;rintro e w' ⟨rfl,rfl⟩))
 go_ret2
 exact ⟨rfl,rfl⟩
def XT (l:List Nat) (x i:Value):Prop:= ∃k:Nat,k≤l.length∧x= .int .u64 ((ay.val (l.take k):Nat):Int)∧i= .int .i64 (k:Int)
theorem TT (X c k:Nat) (hX:X<256^k) (hc:c<256) (hk:k<8):bits .or .u64 (X:Int) (IntKind.u64.wrap ((c:Int)*2^(8*k)))=((X+256^k*c:Nat):Int):=by
 have e:(256:Nat)^k=2^(8*k):=by rw [show (256:Nat)=2^8 by decide,←Nat.pow_mul]
 have hp:(256:Nat)^k≤72057594037927936:=Nat.le_trans (Nat.pow_le_pow_right (by decide) (show k≤7 by omega)) (by decide);have hcm:c*256^k≤255*72057594037927936:=Nat.mul_le_mul (by omega) hp;have e2:((c:Int)*2^(8*k))=((c*2^(8*k):Nat):Int):=by simp
 have e3:IntKind.u64.wrap ((c*2^(8*k):Nat):Int)=((c*2^(8*k):Nat):Int):=by
  rw [e] at hcm;obtain ⟨Y,hY⟩: ∃Y,c*2^(8*k)=Y:=⟨_,rfl⟩;rw [hY] at hcm⊢;simp [IntKind.wrap,IntKind.bits,IntKind.signed];omega
 rw [e2,e3,u64_or_nat _ _ (by omega) (by rw [←e];omega),ay.Wx X c k hX]
theorem GU (w:World) (b off cap:Nat) (l:List Nat) (hc: ∀j,j<l.length→w.cell? ⟨b,off+j,none⟩=some (.int .u8 ((l.getD j 0:Nat):Int))) (h8:l.length≤8) (hb:ay.lC l):
 Calls Tryz.prog 183 #[.slice (some ⟨b,off,none⟩) l.length cap] w fun e w'=>e= .returned (.int .u64 ((ay.val l:Nat):Int))∧w=w':=by
 have HC:=Lib.hid hc;have HB:=Lib.hid hb;clear hc hb;go_enter Tryz.func183,Tryz.ntmps183
 go_wp2
 go_loop [3,8] (fun x i=>XT l x i) (fun _ i=>l.length-(intOf i).toNat)
 case atStart=>exact ⟨0,Nat.zero_le _,rfl,rfl⟩
 case round=>
  obtain ⟨k,hk,rfl,rfl⟩:=hrel;by_cases hlt:k<l.length
  · have hcell:=HC.out k hlt
    have hv:=ay.zH hlt;have hc256:=HB.out.getD k;have hx:ay.val (l.take k)<256^k:=by
     have:=ay.F4 (HB.out.take k)
     rwa [List.length_take,Nat.min_eq_left hk] at this
    obtain ⟨c,hcd⟩: ∃c,l.getD k 0=c:=⟨_,rfl⟩;rw [hcd] at hcell hv hc256;obtain ⟨X,hX⟩: ∃X,ay.val (l.take k)=X:=⟨_,rfl⟩;rw [hX] at hv hx⊢;clear hcd hX;have HV:=Lib.hid hv;clear hv;have HX:=Lib.hid hx;clear hx;go_wp2;exact ⟨⟨k+1,by omega,by rw [TT X c k HX.out hc256 (by omega),HV.out],by go_num⟩,by simp [intOf];omega⟩
  · obtain rfl:k=l.length:=by omega
    go_wp2;go_ret;exact ⟨rfl,rfl⟩
def XU (w:World) (g off n:Nat) (L:List Nat) (x:Nat) (i:Value) (wr:World):Prop:=
 ∃k:Nat,k≤n∧i= .int .i64 (k:Int)∧Bytes wr 5 g (splice L off (ay.le k x))∧aH (fun k=>k=g) w wr
def Laid (w:World) (g off n:Nat) (L:List Nat) (x:Nat) (e:Ending) (w':World):Prop:=e= .returned (.tuple #[])∧Bytes w' 5 g (splice L off (ay.le n x))∧aH (fun k=>k=g) w w'
theorem Gn {L:List Nat} {off k n x:Nat} (hk:k<n) (hn:off+n≤L.length):(splice L off (ay.le k x)).set (off+k) (x/256^k%256)=splice L off (ay.le (k+1) x):=by
 have hl:(splice L off (ay.le k x)).length=L.length:=ay.aT (by rw [ay.length_le];omega);apply ay.f_
 · rw [List.length_set,hl,ay.aT (by rw [ay.length_le];omega)]
 · intro i hi
   rw [List.length_set,hl] at hi;rw [ay.fC (by rw [ay.length_le];omega),ay.length_le];rw [show ((splice L off (ay.le k x)).set (off+k) (x/256^k%256)).getD i 0=if off+k=i then x/256^k%256 else (splice L off (ay.le k x)).getD i 0 by
    simp only [List.getD_eq_getElem?_getD,List.getElem?_set,hl];by_cases h:off+k=i
    · rw [if_pos h,if_pos h,if_pos (by omega)];rfl
    · rw [if_neg h,if_neg h]]
   rw [ay.fC (by rw [ay.length_le];omega),ay.length_le];by_cases h1:off+k=i
   · rw [if_pos h1,if_pos (by omega),ay.sG _ _ _ (by omega),show i-off=k by omega]
   · rw [if_neg h1]
     by_cases h2:off≤i∧i<off+k
     · rw [if_pos h2,if_pos (by omega),ay.sG _ _ _ (by omega),ay.sG _ _ _ (by omega)]
     · rw [if_neg h2,if_neg (by omega)]
theorem Ue (w:World) (g off n cap:Nat) (L:List Nat) (x:Nat) (h:Bytes w 5 g L) (hn:off+n≤L.length) (h8:n≤8) (hx:x≤18446744073709551615) (hL:L.length≤1048576):
 Calls Tryz.prog 162 #[.slice (some ⟨g,off,none⟩) n cap, .int .u64 (x:Int)] w (Laid w g off n L x):=by
 have H:=Lib.hid h;clear h;go_enter Tryz.func162,Tryz.ntmps162
 go_wp2;go_loopw [7] (fun i wr=>XU w g off n L x i wr) (fun i _=>n-(intOf i).toNat)
 case atStart=>exact ⟨0,Nat.zero_le _,rfl,by rw [ay.le,ay.mP];exact H.out,aH.refl _ _⟩
 case round=>
  obtain ⟨k,hk,rfl,hr,hu⟩:=hrel;by_cases hlt:k<n
  · have hcell:wr.cell? ⟨g,off+k,none⟩=some (.int .u8 (((splice L off (ay.le k x)).getD (off+k) 0:Nat):Int)):=hr.cell _ (by rw [ay.aT (by rw [ay.length_le];omega)];omega)
    obtain ⟨c,hc⟩: ∃c,(splice L off (ay.le k x)).getD (off+k) 0=c:=⟨_,rfl⟩;rw [hc] at hcell;clear hc;have hfr:wr.frozen? ⟨g,off+k,none⟩=false:=hr.frozen _;have HR:=Lib.hid hr;clear hr;go_wp2;refine ⟨⟨k+1,by omega,by go_num, ?_,hu.setCell (.inl rfl) _⟩,by simp [intOf];omega⟩;rw [←Gn hlt hn];refine HR.out.put (off+k) _ _ ?_;rw [Int.natCast_emod,Int.natCast_ediv,Int.natCast_pow,Int.pow_mul];rfl
  · obtain rfl:k=n:=by omega
    have HH:=Lib.hid (And.intro hr hu);clear hr hu;go_wp2
    go_end0
    exact ⟨rfl,HH.out.1,HH.out.2⟩
end Go.Proofs.YtpibbcnkgdmcbaaGreatDoor
namespace Go.Proofs.YtpibbcnkgdmcbaaGreatDoor
open Go.RowKit
def Made (w:World) (n:Nat) (e:Ending) (w':World):Prop:= ∃p g,e= .returned (.tuple #[.pointer (some ⟨p,0,none⟩), .int .i64 0])∧bC w' p g (ay.rep n 0)∧w.heap.size≤p∧w.heap.size≤g∧aH (fun _=>False) w w'
theorem BR (n:Nat) (h0:1024≤n) (h1:n≤1048576) (h2:n%1024=0) (w:World):
 Calls Tryz.prog 14 #[.int .u64 (n:Int)] w (Made w n):=by
 obtain ⟨i0,hi,hz0,hz1,hz2⟩:=info_parts Za;have hm:((n:Int)%1024 !=0)=false:=by rw [bne_eq_false_iff_eq];omega
 clear h2;go_enter Tryz.func14,Tryz.ntmps14
 go_wp2_with (at_make;refine q8 rfl _ _ 102 rfl 5 i0 Tryz.underlying102 hi hz0 hz1 hz2 _ _ _ n rfl rfl rfl ?_ ?_;omega;intro w1 hr hu hs)
 have S1:=Lib.hid hs;have R1:=Lib.hid hr;have U1:=Lib.hid hu;clear hs hr hu;go_wp2
 go_ret2
 refine ⟨w.heap.size+1,w.heap.size,rfl,⟨?_,R1.out.alloc _,ay.UZ (by decide),by rw [ay.dS];exact h1⟩,by omega,Nat.le_refl _,U1.out.alloc _⟩;rw [ay.dS,←S1.out];exact aV.new w1 _ _
theorem Ub {w:World} {p g:Nat} {L:List Nat} (h:bC w p g L) (addr n:Nat) (h4:W4 n) (hn:addr+n≤L.length):
 Calls Tryz.prog 171 #[.pointer (some ⟨p,0,none⟩), .int .u64 (addr:Int), .int .i64 (n:Int)] w fun e w'=>e= .returned (.tuple #[.int .u64 ((ay.val (ay.part L addr n):Nat):Int), .int .i64 0])∧w=w':=by
 have HW:=Lib.hid (Jl h addr n 0 h4 (Nat.pow_pos (by decide)) (by decide) hn);have h8:n≤8:=by rcases h4 with rfl|rfl|rfl|rfl<;>decide
 have hl:=ay.dM hn;have Qn:=GU w g addr (L.length-addr) (ay.part L addr n) (fun j hj=>by
  rw [hl] at hj;rw [h.row.cell _ (by omega),ay.jq hj]) (by omega) (h.XA.part _ _)
 rw [hl] at Qn;have HN:=Lib.hid Qn;clear h h4 hl Qn;go_enter Tryz.func171,Tryz.ntmps171
 go_wp2_with (first|(go_at_call 161;refine HW.out.mono ?_;rintro e w' ⟨rfl,rfl⟩)|(go_at_call 183;refine HN.out.mono ?_;rintro e w' ⟨rfl,rfl⟩))
 go_ret2
 exact ⟨rfl,rfl⟩
theorem P8 {w:World} {p g:Nat} {L:List Nat} (h:bC w p g L) (addr n:Nat) (h4:W4 n) (hn:L.length<addr+n):
 Calls Tryz.prog 171 #[.pointer (some ⟨p,0,none⟩), .int .u64 (addr:Int), .int .i64 (n:Int)] w fun e w'=>e= .returned (.tuple #[.int .u64 0, .int .i64 3])∧w=w':=by
 have HW:=Lib.hid (C_ h addr n 0 h4 (Nat.pow_pos (by decide)) (by decide) hn);clear h h4;go_enter Tryz.func171,Tryz.ntmps171
 go_wp2_with (go_at_call 161;refine HW.out.mono ?_;rintro e w' ⟨rfl,rfl⟩)
 go_ret2
 exact ⟨rfl,rfl⟩
def Wrote (w:World) (p g:Nat) (M:List Nat) (v:Value) (e:Ending) (w':World):Prop:=e= .returned v∧bC w' p g M∧aH (fun k=>k=g) w w'
theorem Ou {w:World} {p g:Nat} {L:List Nat} (h:bC w p g L) (addr n x:Nat) (h4:W4 n) (hx:x<256^n) (hx':x≤18446744073709551615) (hn:addr+n≤L.length):
 Calls Tryz.prog 133 #[.pointer (some ⟨p,0,none⟩), .int .u64 (addr:Int), .int .i64 (n:Int), .int .u64 (x:Int)] w (Wrote w p g (splice L addr (ay.le n x)) (.int .i64 0)):=by
 have HW:=Lib.hid (Jl h addr n x h4 hx hx' hn);have h8:n≤8:=by rcases h4 with rfl|rfl|rfl|rfl<;>decide
 have HL:=Lib.hid (Ue w g addr n (L.length-addr) L x h.row hn h8 hx' h.big);have H:=Lib.hid h;clear h h4 hx;go_enter Tryz.func133,Tryz.ntmps133
 go_wp2_with (first|(go_at_call 161;refine HW.out.mono ?_;rintro e w' ⟨rfl,rfl⟩)|(go_at_call 162;refine HL.out.mono ?_;rintro e w1 ⟨rfl,hr,hu⟩))
 go_ret;exact ⟨rfl,H.out.written hu hr (ay.aT (by rw [ay.length_le];exact hn)) (H.out.XA.splice (ay.Q7 _ _) _),hu⟩
end Go.Proofs.YtpibbcnkgdmcbaaGreatDoor
namespace Go.Proofs.YtpibbcnkgdmcbaaGreatDoor
open Go.RowKit
def Vq (w:World) (g addr n:Nat) (L l:List Nat) (x:Value) (wr:World):Prop:=
 ∃d:Nat,d≤n∧x= .int .i64 (d:Int)∧(d=n∨d%l.length=0∧0<d)∧Bytes wr 5 g (splice L addr (ay.fill d l))∧aH (fun k=>k=g) w wr
theorem MG {L l:List Nat} {addr d n:Nat} (hd:d%l.length=0) (h0:0<d) (hlt:d<n) (hn:addr+n≤L.length):
 splice (splice L addr (ay.fill d l)) (addr+d) ((ay.fill d l).take (min d (n-d)))=splice L addr (ay.fill (d+min d (n-d)) l)∧(d+min d (n-d)=n∨(d+min d (n-d))%l.length=0∧0<d+min d (n-d)):=by
 refine ⟨?_, ?_⟩
 · have:=ay.qh (L:=L) (a:=ay.fill d l) (b:=(ay.fill d l).take (min d (n-d))) (o:=addr) (by simp [ay.bH];omega)
   rw [ay.bH] at this;rw [this,ay.Iq hd (by omega)]
 · by_cases h:d≤n-d
   · refine .inr ⟨?_,by omega⟩
     rw [Nat.min_eq_left h,Nat.add_mod,hd];simp
   · exact .inl (by omega)
theorem AX {w:World} {p g:Nat} {L:List Nat} (h:bC w p g L) (addr n:Nat) (a:Option Addr) (c:Nat) (hn:addr+n≤L.length):
 Calls Tryz.prog 108 #[.pointer (some ⟨p,0,none⟩), .int .u64 (addr:Int), .int .u64 (n:Int), .slice a 0 c] w (Wrote w p g (splice L addr (ay.fill n [])) (.int .i64 0)):=by
 have hbig:=h.big;obtain ⟨o,ho,hp⟩:=pK h addr n hn;have HP:=Lib.hid hp;have H:=Lib.hid h;have HO:=Lib.hid ho;clear hp h ho;go_enter Tryz.func108,Tryz.ntmps108
 go_wp2_with (first|(go_at_call 134;refine HP.out.mono ?_;rintro e w' ⟨rfl,rfl⟩)|(refine qA rfl (.tmp 25) 102 rfl 5 Tryz.underlying102 Yv _ _ _ rfl L g addr H.out.row (fun h=>by rw [HO.out h]) hn ?_;intro w1 hr hu))
 have HH:=Lib.hid (And.intro hr hu);clear hr hu;go_wp2;go_ret;refine ⟨rfl,H.out.written HH.out.2 ?_ (ay.aT (by rw [ay.bH];exact hn)) (H.out.XA.splice (ay.Fg ay.lC.nil) _),HH.out.2⟩;rw [ay.QH];exact HH.out.1
theorem MI {w:World} {p g:Nat} {L:List Nat} (h:bC w p g L) (addr n:Nat) (a:Option Addr) (c:Nat) (l:List Nat) (hl:dF w (.slice a l.length c) l) (hb:ay.lC l) (h0:0<l.length) (hlm:l.length≤9223372036854775807) (hn:addr+n≤L.length):
 Calls Tryz.prog 108 #[.pointer (some ⟨p,0,none⟩), .int .u64 (addr:Int), .int .u64 (n:Int), .slice a l.length c] w (Wrote w p g (splice L addr (ay.fill n l)) (.int .i64 0)):=by
 have hbig:=h.big;obtain ⟨o,ho,hp⟩:=pK h addr n hn;have HP:=Lib.hid hp;have H:=Lib.hid h;have HO:=Lib.hid ho;have HR:=Lib.hid hl;have HB:=Lib.hid hb;clear hp h ho hl hb;have ht:((l.length:Int)==0)=false:=by rw [beq_eq_false_iff_ne];omega
 go_enter Tryz.func108,Tryz.ntmps108
 go_wp2_with (first|(go_at_call 134;refine HP.out.mono ?_;rintro e w' ⟨rfl,rfl⟩)|(refine ru rfl (.tmp 26) (.tmp 27) 102 102 rfl 5 Tryz.underlying102 Qf _ _ _ _ _ _ rfl rfl l L g addr H.out.row HR.out (min l.length n) rfl (fun h=>by rw [HO.out (by omega)]) hn ?_;intro w1 hr hu))
 have R1:=Lib.hid hr;have U1:=Lib.hid hu;clear hr hu;go_wp2;go_loopw [11] (fun x wr=>Vq w g addr n L l x wr) (fun x _=>n-(intOf x).toNat)
 case atStart=>
  refine ⟨min l.length n,by omega,rfl, ?_, ?_,U1.out⟩
  · by_cases h:l.length≤n
    · refine .inr ⟨?_,by omega⟩
      rw [Nat.min_eq_left h,Nat.mod_self]
    · exact .inl (by omega)
  · have:=R1.out
    rw [ay.Ir] at this;exact this
 case round=>
  obtain ⟨d,hd,rfl,W9,hr,hu⟩:=hrel;by_cases hlt:d<n
  · obtain ⟨hmod,hd0⟩:d%l.length=0∧0<d:=by
     rcases W9 with h|h
     · omega
     · exact h
    obtain rfl:=HO.out (by omega);have hst:=MG (L:=L) (addr:=o) hmod hd0 hlt hn;obtain ⟨m,hm⟩: ∃m,min d (n-d)=m:=⟨_,rfl⟩;rw [hm] at hst;have hm1:1≤m:=by omega
    have hm2:m≤n-d:=by omega
    have HM:Hid (m=min (ay.fill d l).length (n-d)):=Lib.hid (by rw [ay.bH];exact hm.symm);have ST:=Lib.hid hst;clear hm hst;obtain ⟨p',hp',hs1⟩:=vU (P:=Tryz.prog) 102 Tryz.underlying102 OA .i64 g o n (L.length-o) d (by omega) (by omega);obtain rfl:=hp' hlt;have hs2:=fun w=>ug (P:=Tryz.prog) 102 Tryz.underlying102 OA .i64 (some ⟨g,o,none⟩) n (L.length-o) d (by omega) w;have hrd:dF wr (.slice (some ⟨g,o,none⟩) d (L.length-o)) (ay.fill d l):=by
     have hlen:(splice L o (ay.fill d l)).length=L.length:=ay.aT (by rw [ay.bH];omega);have:=hr.reads o d (L.length-o) (by omega);have e:=ay.vv (L:=L) (cs:=ay.fill d l) (o:=o) (by rw [ay.bH];omega);rw [ay.bH] at e;rw [e] at this;exact this
    have hlen:o+d+(n-d)≤(splice L o (ay.fill d l)).length:=by rw [ay.aT (by rw [ay.bH];omega)];omega
    have RD:=Lib.hid hrd;have RR:=Lib.hid hr;have LL:=Lib.hid hlen;have UU:=Lib.hid hu;clear hrd hr hmod W9 hlen hp' hu;go_wp2;have hwr:IntKind.i64.wrap ((d:Int)+(m:Int))=(d:Int)+(m:Int):=IntWalk.i64_in _ (by omega);go_region_law (refine vS rfl (.tmp 36) (.tmp 39) 102 102 rfl 5 Tryz.underlying102 Qf (some ⟨g,o+d,none⟩) (n-d) (L.length-o-d) (some ⟨g,o,none⟩) d (L.length-o) ?_ ?_ (ay.fill d l) (splice L o (ay.fill d l)) g (o+d) RR.out.drew RD.out.drew m HM.out (fun _=>rfl) LL.out ?_;go_simp;go_simp;intro w2 hr2 hu2)
    all_goals
     rw [ST.out.1] at hr2;have R2:=Lib.hid hr2;have U2:=Lib.hid hu2;clear hr2 hu2;clear hwr;go_frame
     go_roundw
     case rel=>
      repeat apply Exists.intro
      exact ⟨⟨d+m,by omega,by go_num,ST.out.2,R2.out,UU.out.drew.trans U2.out⟩,rfl⟩
     case measure=>simp [intOf];omega
  · obtain rfl:d=n:=by omega
    have HH:=Lib.hid (And.intro hr hu);clear hr hu W9;go_wp2;go_ret;exact ⟨rfl,H.out.written HH.out.2 HH.out.1 (ay.aT (by rw [ay.bH];exact hn)) (H.out.XA.splice (ay.Fg HB.out) _),HH.out.2⟩
theorem ZJ {w:World} {p g:Nat} {L:List Nat} (h:bC w p g L) (addr n:Nat) (a:Option Addr) (c:Nat) (l:List Nat) (hl:dF w (.slice a l.length c) l) (hb:ay.lC l) (hlm:l.length≤9223372036854775807) (hn:addr+n≤L.length):
 Calls Tryz.prog 108 #[.pointer (some ⟨p,0,none⟩), .int .u64 (addr:Int), .int .u64 (n:Int), .slice a l.length c] w (Wrote w p g (splice L addr (ay.fill n l)) (.int .i64 0)):=by
 by_cases h0:l= []
 · subst h0;exact AX h addr n a c hn
 · exact MI h addr n a c l hl hb (List.length_pos_iff.2 h0) hlm hn
end Go.Proofs.YtpibbcnkgdmcbaaGreatDoor
namespace Go.Proofs.YtpibbcnkgdmcbaaGreatDoor
open Go.RowKit
theorem Gh {w:World} {p g:Nat} {L:List Nat} (h:bC w p g L) (addr x:Nat) (hx':x≤18446744073709551615) (hn:L.length<addr+8):
 Calls Tryz.prog 133 #[.pointer (some ⟨p,0,none⟩), .int .u64 (addr:Int), .int .i64 8, .int .u64 (x:Int)] w fun e w'=>e= .returned (.int .i64 3)∧w=w':=by
 have HW:=Lib.hid (C_ h addr 8 x (.inr (.inr (.inr rfl))) (by show x<256^8;omega) hx' hn);clear h hn;go_enter Tryz.func133,Tryz.ntmps133
 go_wp2_with (go_at_call 161;refine HW.out.mono ?_;rintro e w' ⟨rfl,rfl⟩)
 go_ret;exact ⟨rfl,rfl⟩
theorem Ov (w:World) {p g:Nat} {L:List Nat} (h:bC w p g L) (a x:Nat) (ha:a≤18446744073709551615) (hx:x≤18446744073709551615):
 Calls Tryz.prog 133 #[.pointer (some ⟨p,0,none⟩), .int .u64 (a:Int), .int .i64 8, .int .u64 (x:Int)] w fun e w'=>e= .returned (.int .i64 (if a+8≤L.length then 0 else 3))∧bC w' p g (if a+8≤L.length then ay.iC L a x else L)∧aH (fun b=>b=g) w w':=by
 by_cases h8:a+8≤L.length
 · rw [if_pos h8,if_pos h8]
   exact Ou h a 8 x (.inr (.inr (.inr rfl))) (by show x<256^8;omega) hx h8
 · rw [if_neg h8,if_neg h8]
   refine (Gh h a x hx (by omega)).mono ?_;rintro e w' ⟨rfl,rfl⟩;exact ⟨rfl,h,aH.refl _ _⟩
end Go.Proofs.YtpibbcnkgdmcbaaGreatDoor
