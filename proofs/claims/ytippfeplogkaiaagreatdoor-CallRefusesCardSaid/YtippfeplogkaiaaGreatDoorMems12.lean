/- Mems12: texts of layers below, joined (Mem1 Mem2 Mem3 MemW). -/
import Derived.Test.YtippfeplogkaiaaGreatDoorBlk
import Derived.Test.YtippfeplogkaiaaGreatDoorRows
import Derived.WalkKit
import Derived.WalkSpells
import Derived.WalkLawsBesides
import Derived.Outline
import Derived.Lib.Hide
import Derived.Deep.QuietTactic
import Derived.BigQuiet
import Derived.Deep.RegionLaw
import Derived.IntWalk
namespace Go.Proofs.YtippfeplogkaiaaGreatDoor
open Go.RowKit
set_option linter.unusedVariables false
set_option maxRecDepth 100000
structure IsMem (w:World) (p g:Nat) (L:List Nat):Prop where
  head:Blk w p 239 #[.slice (some ⟨g,0,none⟩) L.length L.length]
  row:Bytes w 5 g L
  byt:MemMath.Byt L
  big:L.length≤1048576
theorem IsMem.upd {S:Nat→Prop} {w w':World} {p g:Nat} {L:List Nat} (h:IsMem w p g L) (u:Upd S w w') (hp: ¬S p) (hg: ¬S g):IsMem w' p g L:=⟨h.head.upd u hp,h.row.upd u hg,h.byt,h.big⟩
theorem IsMem.ne {w:World} {p g:Nat} {L:List Nat} (h:IsMem w p g L):p≠g:=Blk.ne h.head h.row (by decide)
theorem IsMem.written {w w':World} {p g:Nat} {L M:List Nat} (h:IsMem w p g L) (u:Upd (fun k=>k=g) w w') (hr:Bytes w' 5 g M) (hl:M.length=L.length) (hb:MemMath.Byt M):IsMem w' p g M:=
  ⟨by rw [hl];exact h.head.upd u h.ne,hr,hb,by rw [hl];exact h.big⟩
theorem size8 (w:World):(sizeOf (Tryz.prog.elem 158)).run Tryz.prog w= .ok 1 w:=by kernel_rfl
theorem info8:(Tryz.prog.info? 5).map (fun i=>(i.zero,i.size,i.bytes))=some (some (.int .u8 0),1,1):=by kernel_rfl
theorem info8s:(Tryz.prog.info? 5).map (·.size)=some 1:=by kernel_rfl
theorem zero8 (w:World):(zeroValue 5).run Tryz.prog w= .ok (.int .u8 0) w:=by kernel_rfl
theorem size_any {w:World} {p g:Nat} {L:List Nat} (h:IsMem w p g L):
    Calls Tryz.prog 171 #[.pointer (some ⟨p,0,none⟩)] w fun e w'=>e= .returned (.int .u64 (L.length:Int))∧w=w':=by
  have hb:=h.big
  have hc:w.cell? ⟨p,0,none⟩=some (.slice (some ⟨g,0,none⟩) L.length L.length):=h.head.cell 0
  clear h
  go_enter Tryz.func171,Tryz.ntmps171
  go_wp2
  go_ret
  exact ⟨rfl,rfl⟩
theorem part_ok {w:World} {p g:Nat} {L:List Nat} (h:IsMem w p g L) (addr n:Nat) (hn:addr+n≤L.length):
    ∃o,(0<n→o=addr)∧Calls Tryz.prog 111 #[.pointer (some ⟨p,0,none⟩), .int .u64 (addr:Int), .int .u64 (n:Int)] w fun e w'=>e= .returned (.tuple #[.slice (some ⟨g,o,none⟩) n (L.length-addr), .int .i64 0])∧w=w':=by
  have hb:=h.big
  obtain ⟨o,ho,hr⟩:=run_slice_both (P:=Tryz.prog) 158 Tryz.underlying158 size8 .u64 .u64 g 0 L.length L.length addr (addr+n) (by omega) hn
  rw [show ((addr+n:Nat):Int)=(addr:Int)+(n:Int) by omega,show addr+n-addr=n by omega] at hr
  refine ⟨o,fun h=>by rw [ho (by omega)];omega, ?_⟩
  have HS:=Lib.hid (size_any h)
  have hc:w.cell? ⟨p,0,none⟩=some (.slice (some ⟨g,0,none⟩) L.length L.length):=h.head.cell 0
  clear h ho
  go_enter Tryz.func111,Tryz.ntmps111
  go_wp2_with (go_at_call 171;refine HS.out.mono ?_;rintro e w' ⟨rfl,rfl⟩)
  go_ret2
  exact ⟨rfl,rfl⟩
theorem part_out {w:World} {p g:Nat} {L:List Nat} (h:IsMem w p g L) (addr n:Nat) (hn:L.length<addr+n):
    Calls Tryz.prog 111 #[.pointer (some ⟨p,0,none⟩), .int .u64 (addr:Int), .int .u64 (n:Int)] w fun e w'=>e= .returned (.tuple #[.slice none 0 0, .int .i64 3])∧w=w':=by
  have hb:=h.big
  have HS:=Lib.hid (size_any h)
  clear h
  by_cases ha:L.length<addr
  · go_enter Tryz.func111,Tryz.ntmps111
    go_wp2_with (go_at_call 171;refine HS.out.mono ?_;rintro e w' ⟨rfl,rfl⟩)
    go_ret2
    exact ⟨rfl,rfl⟩
  · have ha':addr≤L.length:=by omega
    have hn':(L.length:Int)-(addr:Int)<(n:Int):=by omega
    clear ha
    go_enter Tryz.func111,Tryz.ntmps111
    go_wp2_with (go_at_call 171;refine HS.out.mono ?_;rintro e w' ⟨rfl,rfl⟩)
    go_ret2
    exact ⟨rfl,rfl⟩
def W4 (n:Nat):Prop:=n=1∨n=2∨n=4∨n=8
theorem ret_bool {a b:Bool} (h:a=b):Ending.returned (.bool a)= .returned (.bool b):=by rw [h]
theorem div_dec (x d:Nat) (hd:0<d):((x:Int)/(d:Int)==0)=decide (x<d):=by
  rw [Bool.eq_iff_iff,beq_iff_eq,decide_eq_true_iff,←Int.natCast_ediv]
  have:=Nat.div_eq_zero_iff_lt (x:=x) hd
  omega
theorem may_any (n x:Nat) (h:W4 n) (_:x≤18446744073709551615) (w:World):
    Calls Tryz.prog 282 #[.int .i64 (n:Int), .int .u64 (x:Int)] w fun e w'=>e= .returned (.bool (decide (x<256^n)))∧w=w':=by
  rcases h with rfl|rfl|rfl|rfl
  all_goals
    go_enter Tryz.func282,Tryz.ntmps282
    go_wp2
    go_ret
    exact ⟨ret_bool (div_dec x _ (by decide)),rfl⟩
theorem word_ok {w:World} {p g:Nat} {L:List Nat} (h:IsMem w p g L) (addr n x:Nat) (h4:W4 n) (hx:x<256^n) (hx':x≤18446744073709551615) (hn:addr+n≤L.length):
    Calls Tryz.prog 262 #[.pointer (some ⟨p,0,none⟩), .int .u64 (addr:Int), .int .i64 (n:Int), .int .u64 (x:Int)] w fun e w'=>e= .returned (.tuple #[.slice (some ⟨g,addr,none⟩) n (L.length-addr), .int .i64 0])∧w=w':=by
  have hb:=h.big
  have h1:1≤n:=by rcases h4 with rfl|rfl|rfl|rfl<;>decide
  have h8:n≤8:=by rcases h4 with rfl|rfl|rfl|rfl<;>decide
  obtain ⟨o,ho,hc⟩:=part_ok h addr n hn
  obtain rfl:=ho (by omega)
  have hm:=may_any n x h4 hx' w
  rw [decide_eq_true hx] at hm
  have HC:=Lib.hid hc;have HM:=Lib.hid hm
  clear hc hm h hx h4
  go_enter Tryz.func262,Tryz.ntmps262
  go_wp2_with (first|(go_at_call 282;refine HM.out.mono ?_;rintro e w' ⟨rfl,rfl⟩)|(go_at_call 111;refine HC.out.mono ?_;rintro e w' ⟨rfl,rfl⟩))
  go_ret2
  exact ⟨rfl,rfl⟩
theorem word_out {w:World} {p g:Nat} {L:List Nat} (h:IsMem w p g L) (addr n x:Nat) (h4:W4 n) (hx:x<256^n) (hx':x≤18446744073709551615) (hn:L.length<addr+n):
    Calls Tryz.prog 262 #[.pointer (some ⟨p,0,none⟩), .int .u64 (addr:Int), .int .i64 (n:Int), .int .u64 (x:Int)] w fun e w'=>e= .returned (.tuple #[.slice none 0 0, .int .i64 3])∧w=w':=by
  have hb:=h.big
  have h1:1≤n:=by rcases h4 with rfl|rfl|rfl|rfl<;>decide
  have h8:n≤8:=by rcases h4 with rfl|rfl|rfl|rfl<;>decide
  have hc:=part_out h addr n hn
  have hm:=may_any n x h4 hx' w
  rw [decide_eq_true hx] at hm
  have HC:=Lib.hid hc;have HM:=Lib.hid hm
  clear hc hm h hx h4
  go_enter Tryz.func262,Tryz.ntmps262
  go_wp2_with (first|(go_at_call 282;refine HM.out.mono ?_;rintro e w' ⟨rfl,rfl⟩)|(go_at_call 111;refine HC.out.mono ?_;rintro e w' ⟨rfl,rfl⟩))
  go_ret2
  exact ⟨rfl,rfl⟩
def NumRel (l:List Nat) (x i:Value):Prop:= ∃k:Nat,k≤l.length∧x= .int .u64 ((MemMath.val (l.take k):Nat):Int)∧i= .int .i64 (k:Int)
theorem or_byte (X c k:Nat) (hX:X<256^k) (hc:c<256) (hk:k<8):bits .or .u64 (X:Int) (IntKind.u64.wrap ((c:Int)*2^(8*k)))=((X+256^k*c:Nat):Int):=by
  have e:(256:Nat)^k=2^(8*k):=by rw [show (256:Nat)=2^8 by decide,←Nat.pow_mul]
  have hp:(256:Nat)^k≤72057594037927936:=Nat.le_trans (Nat.pow_le_pow_right (by decide) (show k≤7 by omega)) (by decide)
  have hcm:c*256^k≤255*72057594037927936:=Nat.mul_le_mul (by omega) hp
  have e2:((c:Int)*2^(8*k))=((c*2^(8*k):Nat):Int):=by simp
  have e3:IntKind.u64.wrap ((c*2^(8*k):Nat):Int)=((c*2^(8*k):Nat):Int):=by
    rw [e] at hcm
    obtain ⟨Y,hY⟩: ∃Y,c*2^(8*k)=Y:=⟨_,rfl⟩
    rw [hY] at hcm⊢
    simp [IntKind.wrap,IntKind.bits,IntKind.signed]
    omega
  rw [e2,e3,u64_or_nat _ _ (by omega) (by rw [←e];omega),MemMath.shl_or X c k hX]
theorem number_any (w:World) (b off cap:Nat) (l:List Nat) (hc: ∀j,j<l.length→w.cell? ⟨b,off+j,none⟩=some (.int .u8 ((l.getD j 0:Nat):Int))) (h8:l.length≤8) (hb:MemMath.Byt l):
    Calls Tryz.prog 286 #[.slice (some ⟨b,off,none⟩) l.length cap] w fun e w'=>e= .returned (.int .u64 ((MemMath.val l:Nat):Int))∧w=w':=by
  have HC:=Lib.hid hc;have HB:=Lib.hid hb
  clear hc hb
  go_enter Tryz.func286,Tryz.ntmps286
  go_wp2
  go_loop [3,8] (fun x i=>NumRel l x i) (fun _ i=>l.length-(intOf i).toNat)
  case atStart=>exact ⟨0,Nat.zero_le _,rfl,rfl⟩
  case round=>
    obtain ⟨k,hk,rfl,rfl⟩:=hrel
    by_cases hlt:k<l.length
    · have hcell:=HC.out k hlt
      have hv:=MemMath.val_take_succ hlt
      have hc256:=HB.out.getD k
      have hx:MemMath.val (l.take k)<256^k:=by
        have:=MemMath.val_lt (HB.out.take k)
        rwa [List.length_take,Nat.min_eq_left hk] at this
      obtain ⟨c,hcd⟩: ∃c,l.getD k 0=c:=⟨_,rfl⟩
      rw [hcd] at hcell hv hc256
      obtain ⟨X,hX⟩: ∃X,MemMath.val (l.take k)=X:=⟨_,rfl⟩
      rw [hX] at hv hx⊢
      clear hcd hX
      have HV:=Lib.hid hv;clear hv
      have HX:=Lib.hid hx;clear hx
      go_wp2
      exact ⟨⟨k+1,by omega,by rw [or_byte X c k HX.out hc256 (by omega),HV.out],by go_num⟩,by simp [intOf];omega⟩
    · obtain rfl:k=l.length:=by omega
      go_wp2
      go_ret
      exact ⟨rfl,rfl⟩
def LayRel (w:World) (g off n:Nat) (L:List Nat) (x:Nat) (i:Value) (wr:World):Prop:=
  ∃k:Nat,k≤n∧i= .int .i64 (k:Int)∧Bytes wr 5 g (splice L off (MemMath.le k x))∧Upd (fun k=>k=g) w wr
def Laid (w:World) (g off n:Nat) (L:List Nat) (x:Nat) (e:Ending) (w':World):Prop:=e= .returned (.tuple #[])∧Bytes w' 5 g (splice L off (MemMath.le n x))∧Upd (fun k=>k=g) w w'
theorem set_splice {L:List Nat} {off k n x:Nat} (hk:k<n) (hn:off+n≤L.length):(splice L off (MemMath.le k x)).set (off+k) (x/256^k%256)=splice L off (MemMath.le (k+1) x):=by
  have hl:(splice L off (MemMath.le k x)).length=L.length:=MemMath.length_splice' (by rw [MemMath.length_le];omega)
  apply MemMath.ext_getD
  · rw [List.length_set,hl,MemMath.length_splice' (by rw [MemMath.length_le];omega)]
  · intro i hi
    rw [List.length_set,hl] at hi
    rw [MemMath.getD_splice (by rw [MemMath.length_le];omega),MemMath.length_le]
    rw [show ((splice L off (MemMath.le k x)).set (off+k) (x/256^k%256)).getD i 0=if off+k=i then x/256^k%256 else (splice L off (MemMath.le k x)).getD i 0 by
      simp only [List.getD_eq_getElem?_getD,List.getElem?_set,hl]
      by_cases h:off+k=i
      · rw [if_pos h,if_pos h,if_pos (by omega)];rfl
      · rw [if_neg h,if_neg h]]
    rw [MemMath.getD_splice (by rw [MemMath.length_le];omega),MemMath.length_le]
    by_cases h1:off+k=i
    · rw [if_pos h1,if_pos (by omega),MemMath.getD_le _ _ _ (by omega),show i-off=k by omega]
    · rw [if_neg h1]
      by_cases h2:off≤i∧i<off+k
      · rw [if_pos h2,if_pos (by omega),MemMath.getD_le _ _ _ (by omega),MemMath.getD_le _ _ _ (by omega)]
      · rw [if_neg h2,if_neg (by omega)]
theorem lay_any (w:World) (g off n cap:Nat) (L:List Nat) (x:Nat) (h:Bytes w 5 g L) (hn:off+n≤L.length) (h8:n≤8) (hx:x≤18446744073709551615) (hL:L.length≤1048576):
    Calls Tryz.prog 263 #[.slice (some ⟨g,off,none⟩) n cap, .int .u64 (x:Int)] w (Laid w g off n L x):=by
  have H:=Lib.hid h;clear h
  go_enter Tryz.func263,Tryz.ntmps263
  go_wp2
  go_loopw [7] (fun i wr=>LayRel w g off n L x i wr) (fun i _=>n-(intOf i).toNat)
  case atStart=>exact ⟨0,Nat.zero_le _,rfl,by rw [MemMath.le,MemMath.splice_nil];exact H.out,Upd.refl _ _⟩
  case round=>
    obtain ⟨k,hk,rfl,hr,hu⟩:=hrel
    by_cases hlt:k<n
    · have hcell:wr.cell? ⟨g,off+k,none⟩=some (.int .u8 (((splice L off (MemMath.le k x)).getD (off+k) 0:Nat):Int)):=hr.cell _ (by rw [MemMath.length_splice' (by rw [MemMath.length_le];omega)];omega)
      obtain ⟨c,hc⟩: ∃c,(splice L off (MemMath.le k x)).getD (off+k) 0=c:=⟨_,rfl⟩
      rw [hc] at hcell;clear hc
      have hfr:wr.frozen? ⟨g,off+k,none⟩=false:=hr.frozen _
      have HR:=Lib.hid hr;clear hr
      go_wp2
      refine ⟨⟨k+1,by omega,by go_num, ?_,hu.setCell (.inl rfl) _⟩,by simp [intOf];omega⟩
      rw [←set_splice hlt hn]
      refine HR.out.put (off+k) _ _ ?_
      rw [Int.natCast_emod,Int.natCast_ediv,Int.natCast_pow,Int.pow_mul]
      rfl
    · obtain rfl:k=n:=by omega
      have HH:=Lib.hid (And.intro hr hu)
      clear hr hu
      go_wp2
      go_end0
      exact ⟨rfl,HH.out.1,HH.out.2⟩
end Go.Proofs.YtippfeplogkaiaaGreatDoor
namespace Go.Proofs.YtippfeplogkaiaaGreatDoor
open Go.RowKit
set_option linter.unusedVariables false
set_option maxRecDepth 100000
def Made (w:World) (n:Nat) (e:Ending) (w':World):Prop:= ∃p g,e= .returned (.tuple #[.pointer (some ⟨p,0,none⟩), .int .i64 0])∧IsMem w' p g (MemMath.rep n 0)∧w.heap.size≤p∧w.heap.size≤g∧Upd (fun _=>False) w w'
theorem new_ok (n:Nat) (h0:1024≤n) (h1:n≤1048576) (h2:n%1024=0) (w:World):
    Calls Tryz.prog 75 #[.int .u64 (n:Int)] w (Made w n):=by
  obtain ⟨i0,hi,hz0,hz1,hz2⟩:=info_parts info8
  have hm:((n:Int)%1024 !=0)=false:=by rw [bne_eq_false_iff_eq];omega
  clear h2
  go_enter Tryz.func75,Tryz.ntmps75
  go_wp2_with (at_make;refine wpList_make_bytes rfl _ _ 158 rfl 5 i0 Tryz.underlying158 hi hz0 hz1 hz2 _ _ _ n rfl rfl rfl ?_ ?_;omega;intro w1 hr hu hs)
  have S1:=Lib.hid hs;have R1:=Lib.hid hr;have U1:=Lib.hid hu
  clear hs hr hu
  go_wp2
  go_ret2
  refine ⟨w.heap.size+1,w.heap.size,rfl,⟨?_,R1.out.alloc _,MemMath.byt_rep (by decide),by rw [MemMath.length_rep];exact h1⟩,by omega,Nat.le_refl _,U1.out.alloc _⟩
  rw [MemMath.length_rep,←S1.out]
  exact Blk.new w1 _ _
theorem load_ok {w:World} {p g:Nat} {L:List Nat} (h:IsMem w p g L) (addr n:Nat) (h4:W4 n) (hn:addr+n≤L.length):
    Calls Tryz.prog 273 #[.pointer (some ⟨p,0,none⟩), .int .u64 (addr:Int), .int .i64 (n:Int)] w fun e w'=>e= .returned (.tuple #[.int .u64 ((MemMath.val (MemMath.part L addr n):Nat):Int), .int .i64 0])∧w=w':=by
  have HW:=Lib.hid (word_ok h addr n 0 h4 (Nat.pow_pos (by decide)) (by decide) hn)
  have h8:n≤8:=by rcases h4 with rfl|rfl|rfl|rfl<;>decide
  have hl:=MemMath.length_part hn
  have hnum:=number_any w g addr (L.length-addr) (MemMath.part L addr n) (fun j hj=>by
    rw [hl] at hj
    rw [h.row.cell _ (by omega),MemMath.getD_part hj]) (by omega) (h.byt.part _ _)
  rw [hl] at hnum
  have HN:=Lib.hid hnum
  clear h h4 hl hnum
  go_enter Tryz.func273,Tryz.ntmps273
  go_wp2_with (first|(go_at_call 262;refine HW.out.mono ?_;rintro e w' ⟨rfl,rfl⟩)|(go_at_call 286;refine HN.out.mono ?_;rintro e w' ⟨rfl,rfl⟩))
  go_ret2
  exact ⟨rfl,rfl⟩
theorem load_out {w:World} {p g:Nat} {L:List Nat} (h:IsMem w p g L) (addr n:Nat) (h4:W4 n) (hn:L.length<addr+n):
    Calls Tryz.prog 273 #[.pointer (some ⟨p,0,none⟩), .int .u64 (addr:Int), .int .i64 (n:Int)] w fun e w'=>e= .returned (.tuple #[.int .u64 0, .int .i64 3])∧w=w':=by
  have HW:=Lib.hid (word_out h addr n 0 h4 (Nat.pow_pos (by decide)) (by decide) hn)
  clear h h4
  go_enter Tryz.func273,Tryz.ntmps273
  go_wp2_with (go_at_call 262;refine HW.out.mono ?_;rintro e w' ⟨rfl,rfl⟩)
  go_ret2
  exact ⟨rfl,rfl⟩
def Wrote (w:World) (p g:Nat) (M:List Nat) (v:Value) (e:Ending) (w':World):Prop:=e= .returned v∧IsMem w' p g M∧Upd (fun k=>k=g) w w'
theorem store_ok {w:World} {p g:Nat} {L:List Nat} (h:IsMem w p g L) (addr n x:Nat) (h4:W4 n) (hx:x<256^n) (hx':x≤18446744073709551615) (hn:addr+n≤L.length):
    Calls Tryz.prog 234 #[.pointer (some ⟨p,0,none⟩), .int .u64 (addr:Int), .int .i64 (n:Int), .int .u64 (x:Int)] w (Wrote w p g (splice L addr (MemMath.le n x)) (.int .i64 0)):=by
  have HW:=Lib.hid (word_ok h addr n x h4 hx hx' hn)
  have h8:n≤8:=by rcases h4 with rfl|rfl|rfl|rfl<;>decide
  have HL:=Lib.hid (lay_any w g addr n (L.length-addr) L x h.row hn h8 hx' h.big)
  have H:=Lib.hid h
  clear h h4 hx
  go_enter Tryz.func234,Tryz.ntmps234
  go_wp2_with (first|(go_at_call 262;refine HW.out.mono ?_;rintro e w' ⟨rfl,rfl⟩)|(go_at_call 263;refine HL.out.mono ?_;rintro e w1 ⟨rfl,hr,hu⟩))
  go_ret
  exact ⟨rfl,H.out.written hu hr (MemMath.length_splice' (by rw [MemMath.length_le];exact hn)) (H.out.byt.splice (MemMath.byt_le _ _) _),hu⟩
end Go.Proofs.YtippfeplogkaiaaGreatDoor
namespace Go.Proofs.YtippfeplogkaiaaGreatDoor
open Go.RowKit
set_option linter.unusedVariables false
set_option maxRecDepth 100000
def FillRel (w:World) (g addr n:Nat) (L l:List Nat) (x:Value) (wr:World):Prop:=
  ∃d:Nat,d≤n∧x= .int .i64 (d:Int)∧(d=n∨d%l.length=0∧0<d)∧Bytes wr 5 g (splice L addr (MemMath.fill d l))∧Upd (fun k=>k=g) w wr
theorem fill_step {L l:List Nat} {addr d n:Nat} (hd:d%l.length=0) (h0:0<d) (hlt:d<n) (hn:addr+n≤L.length):
    splice (splice L addr (MemMath.fill d l)) (addr+d) ((MemMath.fill d l).take (min d (n-d)))=splice L addr (MemMath.fill (d+min d (n-d)) l)∧(d+min d (n-d)=n∨(d+min d (n-d))%l.length=0∧0<d+min d (n-d)):=by
  refine ⟨?_, ?_⟩
  · have:=MemMath.splice_append (L:=L) (a:=MemMath.fill d l) (b:=(MemMath.fill d l).take (min d (n-d))) (o:=addr) (by simp [MemMath.length_fill];omega)
    rw [MemMath.length_fill] at this
    rw [this,MemMath.fill_twice hd (by omega)]
  · by_cases h:d≤n-d
    · refine .inr ⟨?_,by omega⟩
      rw [Nat.min_eq_left h,Nat.add_mod,hd]
      simp
    · exact .inl (by omega)
theorem fill_none {w:World} {p g:Nat} {L:List Nat} (h:IsMem w p g L) (addr n:Nat) (a:Option Addr) (c:Nat) (hn:addr+n≤L.length):
    Calls Tryz.prog 167 #[.pointer (some ⟨p,0,none⟩), .int .u64 (addr:Int), .int .u64 (n:Int), .slice a 0 c] w (Wrote w p g (splice L addr (MemMath.fill n [])) (.int .i64 0)):=by
  have hbig:=h.big
  obtain ⟨o,ho,hp⟩:=part_ok h addr n hn
  have HP:=Lib.hid hp
  have H:=Lib.hid h;have HO:=Lib.hid ho
  clear hp h ho
  go_enter Tryz.func167,Tryz.ntmps167
  go_wp2_with (first|(go_at_call 111;refine HP.out.mono ?_;rintro e w' ⟨rfl,rfl⟩)|(refine wpList_clear_bytes rfl (.tmp 25) 158 rfl 5 Tryz.underlying158 zero8 _ _ _ rfl L g addr H.out.row (fun h=>by rw [HO.out h]) hn ?_;intro w1 hr hu))
  have HH:=Lib.hid (And.intro hr hu)
  clear hr hu
  go_wp2
  go_ret
  refine ⟨rfl,H.out.written HH.out.2 ?_ (MemMath.length_splice' (by rw [MemMath.length_fill];exact hn)) (H.out.byt.splice (MemMath.byt_fill MemMath.Byt.nil) _),HH.out.2⟩
  rw [MemMath.fill_nil];exact HH.out.1
set_option maxHeartbeats 400000 in
theorem fill_some {w:World} {p g:Nat} {L:List Nat} (h:IsMem w p g L) (addr n:Nat) (a:Option Addr) (c:Nat) (l:List Nat) (hl:Reads8 w (.slice a l.length c) l) (hb:MemMath.Byt l) (h0:0<l.length) (hlm:l.length≤9223372036854775807) (hn:addr+n≤L.length):
    Calls Tryz.prog 167 #[.pointer (some ⟨p,0,none⟩), .int .u64 (addr:Int), .int .u64 (n:Int), .slice a l.length c] w (Wrote w p g (splice L addr (MemMath.fill n l)) (.int .i64 0)):=by
  have hbig:=h.big
  obtain ⟨o,ho,hp⟩:=part_ok h addr n hn
  have HP:=Lib.hid hp
  have H:=Lib.hid h;have HO:=Lib.hid ho;have HR:=Lib.hid hl;have HB:=Lib.hid hb
  clear hp h ho hl hb
  have ht:((l.length:Int)==0)=false:=by rw [beq_eq_false_iff_ne];omega
  go_enter Tryz.func167,Tryz.ntmps167
  go_wp2_with (first|(go_at_call 111;refine HP.out.mono ?_;rintro e w' ⟨rfl,rfl⟩)|(refine wpList_copy_bytes rfl (.tmp 26) (.tmp 27) 158 158 rfl 5 Tryz.underlying158 info8s _ _ _ _ _ _ rfl rfl l L g addr H.out.row HR.out (min l.length n) rfl (fun h=>by rw [HO.out (by omega)]) hn ?_;intro w1 hr hu))
  have R1:=Lib.hid hr;have U1:=Lib.hid hu
  clear hr hu
  go_wp2
  go_loopw [11] (fun x wr=>FillRel w g addr n L l x wr) (fun x _=>n-(intOf x).toNat)
  case atStart=>
    refine ⟨min l.length n,by omega,rfl, ?_, ?_,U1.out⟩
    · by_cases h:l.length≤n
      · refine .inr ⟨?_,by omega⟩
        rw [Nat.min_eq_left h,Nat.mod_self]
      · exact .inl (by omega)
    · have:=R1.out
      rw [MemMath.fill_first] at this
      exact this
  case round=>
    obtain ⟨d,hd,rfl,hway,hr,hu⟩:=hrel
    by_cases hlt:d<n
    · obtain ⟨hmod,hd0⟩:d%l.length=0∧0<d:=by
        rcases hway with h|h
        · omega
        · exact h
      obtain rfl:=HO.out (by omega)
      have hst:=fill_step (L:=L) (addr:=o) hmod hd0 hlt hn
      obtain ⟨m,hm⟩: ∃m,min d (n-d)=m:=⟨_,rfl⟩
      rw [hm] at hst
      have hm1:1≤m:=by omega
      have hm2:m≤n-d:=by omega
      have HM:Hid (m=min (MemMath.fill d l).length (n-d)):=Lib.hid (by rw [MemMath.length_fill];exact hm.symm)
      have ST:=Lib.hid hst
      clear hm hst
      obtain ⟨p',hp',hs1⟩:=run_slice_lower (P:=Tryz.prog) 158 Tryz.underlying158 size8 .i64 g o n (L.length-o) d (by omega) (by omega)
      obtain rfl:=hp' hlt
      have hs2:=fun w=>run_slice_higher (P:=Tryz.prog) 158 Tryz.underlying158 size8 .i64 (some ⟨g,o,none⟩) n (L.length-o) d (by omega) w
      have hrd:Reads8 wr (.slice (some ⟨g,o,none⟩) d (L.length-o)) (MemMath.fill d l):=by
        have hlen:(splice L o (MemMath.fill d l)).length=L.length:=MemMath.length_splice' (by rw [MemMath.length_fill];omega)
        have:=hr.reads o d (L.length-o) (by omega)
        have e:=MemMath.part_splice (L:=L) (cs:=MemMath.fill d l) (o:=o) (by rw [MemMath.length_fill];omega)
        rw [MemMath.length_fill] at e
        rw [e] at this
        exact this
      have hlen:o+d+(n-d)≤(splice L o (MemMath.fill d l)).length:=by rw [MemMath.length_splice' (by rw [MemMath.length_fill];omega)];omega
      have RD:=Lib.hid hrd;have RR:=Lib.hid hr;have LL:=Lib.hid hlen;have UU:=Lib.hid hu
      clear hrd hr hmod hway hlen hp' hu
      go_wp2
      have hwr:IntKind.i64.wrap ((d:Int)+(m:Int))=(d:Int)+(m:Int):=IntWalk.i64_in _ (by omega)
      go_region_law (refine step_copy_bytes rfl (.tmp 36) (.tmp 39) 158 158 rfl 5 Tryz.underlying158 info8s (some ⟨g,o+d,none⟩) (n-d) (L.length-o-d) (some ⟨g,o,none⟩) d (L.length-o) ?_ ?_ (MemMath.fill d l) (splice L o (MemMath.fill d l)) g (o+d) RR.out.drew RD.out.drew m HM.out (fun _=>rfl) LL.out ?_;go_simp;go_simp;intro w2 hr2 hu2)
      all_goals
        rw [ST.out.1] at hr2
        have R2:=Lib.hid hr2;have U2:=Lib.hid hu2
        clear hr2 hu2
        clear hwr
        go_frame
        go_roundw
        case rel=>
          repeat apply Exists.intro
          exact ⟨⟨d+m,by omega,by go_num,ST.out.2,R2.out,UU.out.drew.trans U2.out⟩,rfl⟩
        case measure=>simp [intOf];omega
    · obtain rfl:d=n:=by omega
      have HH:=Lib.hid (And.intro hr hu)
      clear hr hu hway
      go_wp2
      go_ret
      exact ⟨rfl,H.out.written HH.out.2 HH.out.1 (MemMath.length_splice' (by rw [MemMath.length_fill];exact hn)) (H.out.byt.splice (MemMath.byt_fill HB.out) _),HH.out.2⟩
theorem fill_any {w:World} {p g:Nat} {L:List Nat} (h:IsMem w p g L) (addr n:Nat) (a:Option Addr) (c:Nat) (l:List Nat) (hl:Reads8 w (.slice a l.length c) l) (hb:MemMath.Byt l) (hlm:l.length≤9223372036854775807) (hn:addr+n≤L.length):
    Calls Tryz.prog 167 #[.pointer (some ⟨p,0,none⟩), .int .u64 (addr:Int), .int .u64 (n:Int), .slice a l.length c] w (Wrote w p g (splice L addr (MemMath.fill n l)) (.int .i64 0)):=by
  by_cases h0:l= []
  · subst h0;exact fill_none h addr n a c hn
  · exact fill_some h addr n a c l hl hb (List.length_pos_iff.2 h0) hlm hn
end Go.Proofs.YtippfeplogkaiaaGreatDoor
namespace Go.Proofs.YtippfeplogkaiaaGreatDoor
open Go.RowKit
set_option linter.unusedVariables false
theorem store_out' {w:World} {p g:Nat} {L:List Nat} (h:IsMem w p g L) (addr x:Nat) (hx':x≤18446744073709551615) (hn:L.length<addr+8):
    Calls Tryz.prog 234 #[.pointer (some ⟨p,0,none⟩), .int .u64 (addr:Int), .int .i64 8, .int .u64 (x:Int)] w fun e w'=>e= .returned (.int .i64 3)∧w=w':=by
  have HW:=Lib.hid (word_out h addr 8 x (.inr (.inr (.inr rfl))) (by show x<256^8;omega) hx' hn)
  clear h hn
  go_enter Tryz.func234,Tryz.ntmps234
  go_wp2_with (go_at_call 262;refine HW.out.mono ?_;rintro e w' ⟨rfl,rfl⟩)
  go_ret
  exact ⟨rfl,rfl⟩
theorem store8 (w:World) {p g:Nat} {L:List Nat} (h:IsMem w p g L) (a x:Nat) (ha:a≤18446744073709551615) (hx:x≤18446744073709551615):
    Calls Tryz.prog 234 #[.pointer (some ⟨p,0,none⟩), .int .u64 (a:Int), .int .i64 8, .int .u64 (x:Int)] w fun e w'=>e= .returned (.int .i64 (if a+8≤L.length then 0 else 3))∧IsMem w' p g (if a+8≤L.length then MemMath.put8 L a x else L)∧Upd (fun b=>b=g) w w':=by
  by_cases h8:a+8≤L.length
  · rw [if_pos h8,if_pos h8]
    exact store_ok h a 8 x (.inr (.inr (.inr rfl))) (by show x<256^8;omega) hx h8
  · rw [if_neg h8,if_neg h8]
    refine (store_out' h a x hx (by omega)).mono ?_
    rintro e w' ⟨rfl,rfl⟩
    exact ⟨rfl,h,Upd.refl _ _⟩
end Go.Proofs.YtippfeplogkaiaaGreatDoor
