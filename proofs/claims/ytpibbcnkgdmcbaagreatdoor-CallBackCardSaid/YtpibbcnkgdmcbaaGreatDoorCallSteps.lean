/- The map of what is done in each state (layer 14): made by `steps`, and asked. -/
import Derived.Test.YtpibbcnkgdmcbaaGreatDoorQueues12
import Derived.Test.YtpibbcnkgdmcbaaGreatDoorSmalls12
import Derived.Maps.StringElems
set_option linter.unusedVariables false
set_option maxRecDepth 100000
namespace Go.Proofs.YtpibbcnkgdmcbaaGreatDoor
open Go.RowKit Go.Maps
def bD:Value→Option (DataW Unit×List MemPlace)
 | .func (.func g) a b=>if a.size=0∧b.size=0 then some (.lit (.int .i64 (g:Int)), []) else none
 | .nilFunc=>some (.lit (.int .i64 (-1)), [])
 |_=>none
theorem fV {v:Value} {g:Nat} {ps:List MemPlace} (h:bD v=some (.lit (.int .i64 (g:Int)),ps)):v= .func (.func g) #[] #[]:=by
 unfold bD at h;split at h
 · rename_i g2 a b
   split at h
   · rename_i hs
     simp only [Option.some.injEq,Prod.mk.injEq,DataW.lit.injEq,Lit.int.injEq] at h;have h2:g2=g:=Int.ofNat.inj h.1.2;rw [h2,Array.eq_empty_of_size_eq_zero hs.1,Array.eq_empty_of_size_eq_zero hs.2]
   · cases h
 · simp only [Option.some.injEq,Prod.mk.injEq,DataW.lit.injEq,Lit.int.injEq] at h
   have:=h.1.2;omega
 · cases h
theorem jh:Keyed Tryz.prog 9:=string_keyed Tryz.underlying9
def stW (l:List UInt8):ByteArray:=⟨l.toArray⟩
abbrev jJ:ByteArray:={data:= #[114,101,102,117,115,101]}
abbrev qV:ByteArray:={data:= #[104,117,103,101]}
abbrev kV:ByteArray:={data:= #[108,111,99,97,108]}
abbrev o8:ByteArray:={data:= #[103,97,116,104,101,114]}
abbrev jf:ByteArray:={data:= #[102,114,101,115,104]}
abbrev je:ByteArray:={data:= #[108,111,111,107]}
abbrev I9:ByteArray:={data:= #[116,97,107,101]}
abbrev ZX:ByteArray:={data:= #[111,119,110]}
abbrev Vb:ByteArray:={data:= #[115,119,101,101,112]}
abbrev qW:ByteArray:={data:= #[103,114,111,119]}
abbrev lq:ByteArray:={data:= #[102,105,110,100]}
abbrev XG:ByteArray:={data:= #[104,101,97,100]}
abbrev XF:ByteArray:={data:= #[112,111,115,116]}
abbrev Bb:ByteArray:={data:= #[102,105,116]}
abbrev I_:ByteArray:={data:= #[99,111,112,121]}
abbrev kL:ByteArray:={data:= #[114,101,115,116]}
abbrev mE:ByteArray:={data:= #[100,105,115,111,119,110]}
abbrev ZV:ByteArray:={data:= #[116,111,112]}
abbrev ZW:ByteArray:={data:= #[112,117,116]}
abbrev cK:ByteArray:={data:= #[100,111,110,101]}
def FM:DataW Unit:=DataW.put (.map []) (.string [114,101,102,117,115,101]) (.lit (.int .i64 39))
def RI:DataW Unit:=DataW.put FM (.string [104,117,103,101]) (.lit (.int .i64 40))
def Kw:DataW Unit:=DataW.put RI (.string [108,111,99,97,108]) (.lit (.int .i64 41))
def FQ:DataW Unit:=DataW.put Kw (.string [103,97,116,104,101,114]) (.lit (.int .i64 42))
def Ky:DataW Unit:=DataW.put FQ (.string [102,114,101,115,104]) (.lit (.int .i64 43))
def RH:DataW Unit:=DataW.put Ky (.string [108,111,111,107]) (.lit (.int .i64 44))
def RB:DataW Unit:=DataW.put RH (.string [116,97,107,101]) (.lit (.int .i64 45))
def V6:DataW Unit:=DataW.put RB (.string [111,119,110]) (.lit (.int .i64 46))
def Kv:DataW Unit:=DataW.put V6 (.string [115,119,101,101,112]) (.lit (.int .i64 47))
def RN:DataW Unit:=DataW.put Kv (.string [103,114,111,119]) (.lit (.int .i64 48))
def RO:DataW Unit:=DataW.put RN (.string [102,105,110,100]) (.lit (.int .i64 49))
def RJ:DataW Unit:=DataW.put RO (.string [104,101,97,100]) (.lit (.int .i64 50))
def RG:DataW Unit:=DataW.put RJ (.string [112,111,115,116]) (.lit (.int .i64 51))
def V7:DataW Unit:=DataW.put RG (.string [102,105,116]) (.lit (.int .i64 52))
def RQ:DataW Unit:=DataW.put V7 (.string [99,111,112,121]) (.lit (.int .i64 53))
def RF:DataW Unit:=DataW.put RQ (.string [114,101,115,116]) (.lit (.int .i64 54))
def FT:DataW Unit:=DataW.put RF (.string [100,105,115,111,119,110]) (.lit (.int .i64 55))
def V5:DataW Unit:=DataW.put FT (.string [116,111,112]) (.lit (.int .i64 56))
def qz:DataW Unit:=DataW.put V5 (.string [112,117,116]) (.lit (.int .i64 57))
theorem mI (w:World):(zeroValue 119).run Tryz.prog w= .ok .nilFunc w:=by kernel_rfl
def dh (w:World) (m:Nat):Prop:=w.ownsMap Tryz.prog 9 bD m 19 qz
theorem dh.upd {w w':World} {m:Nat} {T:Nat→Prop} (h:dh w m) (u:aH T w w') (hm: ¬T m):dh w' m:=by
 obtain ⟨es,clock,hb,F,hs,hD⟩:=h;have hlt:m<w.heap.size:=(Array.getElem?_eq_some_iff.1 hb).1;exact ⟨es,clock,(u.block m hlt hm).trans hb,F,hs,hD⟩
theorem dh.lt {w:World} {m:Nat} (h:dh w m):m<w.heap.size:=World.ownsMap.lt h
theorem aS {H:Type} {P:Program} (w:World) {ops:Array Oper} {rest:List Oper} {o:Oper} {a:Act} {Q:Exit→Act→World→Prop}
 (hg:o.guard=none) (m x v:Operand) (t:TypeId) (hop:o.op=Op.insert t m x v)
 (k e:TypeId) (K:Keyed P k) (ht:P.underlying t=some (.map k e)) (R:Value→Option (DataW H×List MemPlace)) (b n:Nat) (D:DataW H)
 (hm:a.eval m= .map (some b)) (hown:w.ownsMap P k R b n D) (hn:n<maxLen) (key val:Value) (kl:Lit) (hx:a.eval x=key) (hv:a.eval v=val) (hkey:keyOf P k key=some kl)
 (d:DataW H) (ps:List MemPlace) (hval:R val=some (d,ps))
 (hK: ∀w',w'.ownsMap P k R b (n+1) (D.put kl d)→w.grownBy w' (some b)→wpList P ops Q rest (a.put o.dst undef) w'):
 wpList P ops Q (o::rest) a w:=by
 refine wpList_plain hg fun K' hK'=> ?_;obtain ⟨w',hrun,r1,r2⟩:=hown.update K ht hn hkey hval;unfold Oper.wp;simp [execOp,hop,hm,hx,hv,hrun,Result.andThen];exact hK' _ _ (hK w' r1 r2)
theorem bG {w w0 w':World} {b:Nat} (h:Below b w0 w) (hg:w.grownBy w' (some b)) (hb:b≤w0.heap.size):Below b w0 w':=
 ⟨hg.os.trans h.os,hg.tape.trans h.tape,hg.output.trans h.output,Nat.le_trans h.size hg.size,fun k hk=>(hg.block k (by have:=h.size;omega) (fun e=>by injection e with e;omega)).trans (h.block k hk)⟩
theorem Aq:keyOf Tryz.prog 9 (.string jJ)=some (.string [114,101,102,117,115,101]):=by kernel_rfl
theorem JU:keyOf Tryz.prog 9 (.string qV)=some (.string [104,117,103,101]):=by kernel_rfl
theorem Eu:keyOf Tryz.prog 9 (.string kV)=some (.string [108,111,99,97,108]):=by kernel_rfl
theorem LZ:keyOf Tryz.prog 9 (.string o8)=some (.string [103,97,116,104,101,114]):=by kernel_rfl
theorem Ev:keyOf Tryz.prog 9 (.string jf)=some (.string [102,114,101,115,104]):=by kernel_rfl
theorem JR:keyOf Tryz.prog 9 (.string je)=some (.string [108,111,111,107]):=by kernel_rfl
theorem Ug:keyOf Tryz.prog 9 (.string I9)=some (.string [116,97,107,101]):=by kernel_rfl
theorem WX:keyOf Tryz.prog 9 (.string ZX)=some (.string [111,119,110]):=by kernel_rfl
theorem Qa:keyOf Tryz.prog 9 (.string Vb)=some (.string [115,119,101,101,112]):=by kernel_rfl
theorem JV:keyOf Tryz.prog 9 (.string qW)=some (.string [103,114,111,119]):=by kernel_rfl
theorem JW:keyOf Tryz.prog 9 (.string lq)=some (.string [102,105,110,100]):=by kernel_rfl
theorem Ui:keyOf Tryz.prog 9 (.string XG)=some (.string [104,101,97,100]):=by kernel_rfl
theorem Uh:keyOf Tryz.prog 9 (.string XF)=some (.string [112,111,115,116]):=by kernel_rfl
theorem Qb:keyOf Tryz.prog 9 (.string Bb)=some (.string [102,105,116]):=by kernel_rfl
theorem Uj:keyOf Tryz.prog 9 (.string I_)=some (.string [99,111,112,121]):=by kernel_rfl
theorem JQ:keyOf Tryz.prog 9 (.string kL)=some (.string [114,101,115,116]):=by kernel_rfl
theorem L8:keyOf Tryz.prog 9 (.string mE)=some (.string [100,105,115,111,119,110]):=by kernel_rfl
theorem WU:keyOf Tryz.prog 9 (.string ZV)=some (.string [116,111,112]):=by kernel_rfl
theorem WV:keyOf Tryz.prog 9 (.string ZW)=some (.string [112,117,116]):=by kernel_rfl
theorem jX (w:World):Calls Tryz.prog 20 #[] w fun e w'=>e= .returned (.map (some w.heap.size))∧dh w' w.heap.size∧Below w.heap.size w w':=by
 have hmm:= @run_makeMap Tryz.prog;obtain ⟨b,hb⟩: ∃z,w.heap.size=z:=⟨_,rfl⟩;have H0:=Lib.hid (show (w.alloc (.map #[] 0)).ownsMap Tryz.prog 9 bD b 0 (.map []) by rw [←hb];exact World.ownsMap_made w _ _ _);have B0:=Lib.hid (show Below b w (w.alloc (.map #[] 0)) from (Below.refl _ w).alloc (by omega) _);rw [hb];go_enter Tryz.func20,Tryz.ntmps20
 go_wp2_with (first
  |(refine aS _ rfl _ _ _ 73 rfl 9 119 jh Tryz.underlying73 bD b 0 (.map []) rfl H0.out (by unfold maxLen;omega) _ _ _ rfl rfl Aq _ [] (show bD (.func (.func 39) #[] #[])=some (.lit (.int .i64 (39:Nat)), []) from rfl) ?_;intro w1 h g;have H1:=Lib.hid h;have B1:=Lib.hid (bG B0.out g (by omega));clear h g)
  |(refine aS _ rfl _ _ _ 73 rfl 9 119 jh Tryz.underlying73 bD b 1 FM rfl H1.out (by unfold maxLen;omega) _ _ _ rfl rfl JU _ [] (show bD (.func (.func 40) #[] #[])=some (.lit (.int .i64 (40:Nat)), []) from rfl) ?_;intro w2 h g;have H2:=Lib.hid h;have B2:=Lib.hid (bG B1.out g (by omega));clear h g)
  |(refine aS _ rfl _ _ _ 73 rfl 9 119 jh Tryz.underlying73 bD b 2 RI rfl H2.out (by unfold maxLen;omega) _ _ _ rfl rfl Eu _ [] (show bD (.func (.func 41) #[] #[])=some (.lit (.int .i64 (41:Nat)), []) from rfl) ?_;intro w3 h g;have H3:=Lib.hid h;have B3:=Lib.hid (bG B2.out g (by omega));clear h g)
  |(refine aS _ rfl _ _ _ 73 rfl 9 119 jh Tryz.underlying73 bD b 3 Kw rfl H3.out (by unfold maxLen;omega) _ _ _ rfl rfl LZ _ [] (show bD (.func (.func 42) #[] #[])=some (.lit (.int .i64 (42:Nat)), []) from rfl) ?_;intro w4 h g;have H4:=Lib.hid h;have B4:=Lib.hid (bG B3.out g (by omega));clear h g)
  |(refine aS _ rfl _ _ _ 73 rfl 9 119 jh Tryz.underlying73 bD b 4 FQ rfl H4.out (by unfold maxLen;omega) _ _ _ rfl rfl Ev _ [] (show bD (.func (.func 43) #[] #[])=some (.lit (.int .i64 (43:Nat)), []) from rfl) ?_;intro w5 h g;have H5:=Lib.hid h;have B5:=Lib.hid (bG B4.out g (by omega));clear h g)
  |(refine aS _ rfl _ _ _ 73 rfl 9 119 jh Tryz.underlying73 bD b 5 Ky rfl H5.out (by unfold maxLen;omega) _ _ _ rfl rfl JR _ [] (show bD (.func (.func 44) #[] #[])=some (.lit (.int .i64 (44:Nat)), []) from rfl) ?_;intro w6 h g;have H6:=Lib.hid h;have B6:=Lib.hid (bG B5.out g (by omega));clear h g)
  |(refine aS _ rfl _ _ _ 73 rfl 9 119 jh Tryz.underlying73 bD b 6 RH rfl H6.out (by unfold maxLen;omega) _ _ _ rfl rfl Ug _ [] (show bD (.func (.func 45) #[] #[])=some (.lit (.int .i64 (45:Nat)), []) from rfl) ?_;intro w7 h g;have H7:=Lib.hid h;have B7:=Lib.hid (bG B6.out g (by omega));clear h g)
  |(refine aS _ rfl _ _ _ 73 rfl 9 119 jh Tryz.underlying73 bD b 7 RB rfl H7.out (by unfold maxLen;omega) _ _ _ rfl rfl WX _ [] (show bD (.func (.func 46) #[] #[])=some (.lit (.int .i64 (46:Nat)), []) from rfl) ?_;intro w8 h g;have H8:=Lib.hid h;have B8:=Lib.hid (bG B7.out g (by omega));clear h g)
  |(refine aS _ rfl _ _ _ 73 rfl 9 119 jh Tryz.underlying73 bD b 8 V6 rfl H8.out (by unfold maxLen;omega) _ _ _ rfl rfl Qa _ [] (show bD (.func (.func 47) #[] #[])=some (.lit (.int .i64 (47:Nat)), []) from rfl) ?_;intro w9 h g;have H9:=Lib.hid h;have B9:=Lib.hid (bG B8.out g (by omega));clear h g)
  |(refine aS _ rfl _ _ _ 73 rfl 9 119 jh Tryz.underlying73 bD b 9 Kv rfl H9.out (by unfold maxLen;omega) _ _ _ rfl rfl JV _ [] (show bD (.func (.func 48) #[] #[])=some (.lit (.int .i64 (48:Nat)), []) from rfl) ?_;intro YA h g;have H10:=Lib.hid h;have B10:=Lib.hid (bG B9.out g (by omega));clear h g)
  |(refine aS _ rfl _ _ _ 73 rfl 9 119 jh Tryz.underlying73 bD b 10 RN rfl H10.out (by unfold maxLen;omega) _ _ _ rfl rfl JW _ [] (show bD (.func (.func 49) #[] #[])=some (.lit (.int .i64 (49:Nat)), []) from rfl) ?_;intro w11 h g;have H11:=Lib.hid h;have B11:=Lib.hid (bG B10.out g (by omega));clear h g)
  |(refine aS _ rfl _ _ _ 73 rfl 9 119 jh Tryz.underlying73 bD b 11 RO rfl H11.out (by unfold maxLen;omega) _ _ _ rfl rfl Ui _ [] (show bD (.func (.func 50) #[] #[])=some (.lit (.int .i64 (50:Nat)), []) from rfl) ?_;intro w12 h g;have H12:=Lib.hid h;have B12:=Lib.hid (bG B11.out g (by omega));clear h g)
  |(refine aS _ rfl _ _ _ 73 rfl 9 119 jh Tryz.underlying73 bD b 12 RJ rfl H12.out (by unfold maxLen;omega) _ _ _ rfl rfl Uh _ [] (show bD (.func (.func 51) #[] #[])=some (.lit (.int .i64 (51:Nat)), []) from rfl) ?_;intro w13 h g;have H13:=Lib.hid h;have B13:=Lib.hid (bG B12.out g (by omega));clear h g)
  |(refine aS _ rfl _ _ _ 73 rfl 9 119 jh Tryz.underlying73 bD b 13 RG rfl H13.out (by unfold maxLen;omega) _ _ _ rfl rfl Qb _ [] (show bD (.func (.func 52) #[] #[])=some (.lit (.int .i64 (52:Nat)), []) from rfl) ?_;intro w14 h g;have H14:=Lib.hid h;have B14:=Lib.hid (bG B13.out g (by omega));clear h g)
  |(refine aS _ rfl _ _ _ 73 rfl 9 119 jh Tryz.underlying73 bD b 14 V7 rfl H14.out (by unfold maxLen;omega) _ _ _ rfl rfl Uj _ [] (show bD (.func (.func 53) #[] #[])=some (.lit (.int .i64 (53:Nat)), []) from rfl) ?_;intro w15 h g;have H15:=Lib.hid h;have B15:=Lib.hid (bG B14.out g (by omega));clear h g)
  |(refine aS _ rfl _ _ _ 73 rfl 9 119 jh Tryz.underlying73 bD b 15 RQ rfl H15.out (by unfold maxLen;omega) _ _ _ rfl rfl JQ _ [] (show bD (.func (.func 54) #[] #[])=some (.lit (.int .i64 (54:Nat)), []) from rfl) ?_;intro w16 h g;have H16:=Lib.hid h;have B16:=Lib.hid (bG B15.out g (by omega));clear h g)
  |(refine aS _ rfl _ _ _ 73 rfl 9 119 jh Tryz.underlying73 bD b 16 RF rfl H16.out (by unfold maxLen;omega) _ _ _ rfl rfl L8 _ [] (show bD (.func (.func 55) #[] #[])=some (.lit (.int .i64 (55:Nat)), []) from rfl) ?_;intro w17 h g;have H17:=Lib.hid h;have B17:=Lib.hid (bG B16.out g (by omega));clear h g)
  |(refine aS _ rfl _ _ _ 73 rfl 9 119 jh Tryz.underlying73 bD b 17 FT rfl H17.out (by unfold maxLen;omega) _ _ _ rfl rfl WU _ [] (show bD (.func (.func 56) #[] #[])=some (.lit (.int .i64 (56:Nat)), []) from rfl) ?_;intro w18 h g;have H18:=Lib.hid h;have B18:=Lib.hid (bG B17.out g (by omega));clear h g)
  |(refine aS _ rfl _ _ _ 73 rfl 9 119 jh Tryz.underlying73 bD b 18 V5 rfl H18.out (by unfold maxLen;omega) _ _ _ rfl rfl WV _ [] (show bD (.func (.func 57) #[] #[])=some (.lit (.int .i64 (57:Nat)), []) from rfl) ?_;intro w19 h g;have H19:=Lib.hid h;have B19:=Lib.hid (bG B18.out g (by omega));clear h g))
 go_wp2;go_ret;exact ⟨rfl,H19.out,B19.out⟩
theorem Ng {w:World} {m:Nat} (h:dh w m):(Instr.lookup 73 (.map (some m)) (.string jJ) false).run Tryz.prog w= .ok (.func (.func 39) #[] #[]) w:=by
 obtain ⟨v,ps,hrun,hv⟩:=World.ownsMap.lookup h jh Tryz.underlying73 (mI w) (show bD .nilFunc=some (.lit (.int .i64 (-1)), []) from rfl) Aq;have e:DataW.atKey qz (.string [114,101,102,117,115,101]) (.lit (.int .i64 (-1)))= .lit (.int .i64 ((39:Nat):Int)):=by kernel_rfl
 rw [e] at hv;rw [hrun,fV hv]
theorem Ve {w:World} {m:Nat} (h:dh w m):(Instr.lookup 73 (.map (some m)) (.string qV) false).run Tryz.prog w= .ok (.func (.func 40) #[] #[]) w:=by
 obtain ⟨v,ps,hrun,hv⟩:=World.ownsMap.lookup h jh Tryz.underlying73 (mI w) (show bD .nilFunc=some (.lit (.int .i64 (-1)), []) from rfl) JU;have e:DataW.atKey qz (.string [104,117,103,101]) (.lit (.int .i64 (-1)))= .lit (.int .i64 ((40:Nat):Int)):=by kernel_rfl
 rw [e] at hv;rw [hrun,fV hv]
theorem Ra {w:World} {m:Nat} (h:dh w m):(Instr.lookup 73 (.map (some m)) (.string kV) false).run Tryz.prog w= .ok (.func (.func 41) #[] #[]) w:=by
 obtain ⟨v,ps,hrun,hv⟩:=World.ownsMap.lookup h jh Tryz.underlying73 (mI w) (show bD .nilFunc=some (.lit (.int .i64 (-1)), []) from rfl) Eu;have e:DataW.atKey qz (.string [108,111,99,97,108]) (.lit (.int .i64 (-1)))= .lit (.int .i64 ((41:Nat):Int)):=by kernel_rfl
 rw [e] at hv;rw [hrun,fV hv]
theorem Rb {w:World} {m:Nat} (h:dh w m):(Instr.lookup 73 (.map (some m)) (.string jf) false).run Tryz.prog w= .ok (.func (.func 43) #[] #[]) w:=by
 obtain ⟨v,ps,hrun,hv⟩:=World.ownsMap.lookup h jh Tryz.underlying73 (mI w) (show bD .nilFunc=some (.lit (.int .i64 (-1)), []) from rfl) Ev;have e:DataW.atKey qz (.string [102,114,101,115,104]) (.lit (.int .i64 (-1)))= .lit (.int .i64 ((43:Nat):Int)):=by kernel_rfl
 rw [e] at hv;rw [hrun,fV hv]
theorem Kk {w:World} {m:Nat} (h:dh w m):(Instr.lookup 73 (.map (some m)) (.string je) false).run Tryz.prog w= .ok (.func (.func 44) #[] #[]) w:=by
 obtain ⟨v,ps,hrun,hv⟩:=World.ownsMap.lookup h jh Tryz.underlying73 (mI w) (show bD .nilFunc=some (.lit (.int .i64 (-1)), []) from rfl) JR;have e:DataW.atKey qz (.string [108,111,111,107]) (.lit (.int .i64 (-1)))= .lit (.int .i64 ((44:Nat):Int)):=by kernel_rfl
 rw [e] at hv;rw [hrun,fV hv]
theorem Vf {w:World} {m:Nat} (h:dh w m):(Instr.lookup 73 (.map (some m)) (.string qW) false).run Tryz.prog w= .ok (.func (.func 48) #[] #[]) w:=by
 obtain ⟨v,ps,hrun,hv⟩:=World.ownsMap.lookup h jh Tryz.underlying73 (mI w) (show bD .nilFunc=some (.lit (.int .i64 (-1)), []) from rfl) JV;have e:DataW.atKey qz (.string [103,114,111,119]) (.lit (.int .i64 (-1)))= .lit (.int .i64 ((48:Nat):Int)):=by kernel_rfl
 rw [e] at hv;rw [hrun,fV hv]
theorem CJ {w:World} {m:Nat} (h:dh w m):(Instr.lookup 73 (.map (some m)) (.string lq) false).run Tryz.prog w= .ok (.func (.func 49) #[] #[]) w:=by
 obtain ⟨v,ps,hrun,hv⟩:=World.ownsMap.lookup h jh Tryz.underlying73 (mI w) (show bD .nilFunc=some (.lit (.int .i64 (-1)), []) from rfl) JW;have e:DataW.atKey qz (.string [102,105,110,100]) (.lit (.int .i64 (-1)))= .lit (.int .i64 ((49:Nat):Int)):=by kernel_rfl
 rw [e] at hv;rw [hrun,fV hv]
theorem XH {w:World} {m:Nat} (h:dh w m):(Instr.lookup 73 (.map (some m)) (.string Bb) false).run Tryz.prog w= .ok (.func (.func 52) #[] #[]) w:=by
 obtain ⟨v,ps,hrun,hv⟩:=World.ownsMap.lookup h jh Tryz.underlying73 (mI w) (show bD .nilFunc=some (.lit (.int .i64 (-1)), []) from rfl) Qb;have e:DataW.atKey qz (.string [102,105,116]) (.lit (.int .i64 (-1)))= .lit (.int .i64 ((52:Nat):Int)):=by kernel_rfl
 rw [e] at hv;rw [hrun,fV hv]
theorem Vd {w:World} {m:Nat} (h:dh w m):(Instr.lookup 73 (.map (some m)) (.string kL) false).run Tryz.prog w= .ok (.func (.func 54) #[] #[]) w:=by
 obtain ⟨v,ps,hrun,hv⟩:=World.ownsMap.lookup h jh Tryz.underlying73 (mI w) (show bD .nilFunc=some (.lit (.int .i64 (-1)), []) from rfl) JQ;have e:DataW.atKey qz (.string [114,101,115,116]) (.lit (.int .i64 (-1)))= .lit (.int .i64 ((54:Nat):Int)):=by kernel_rfl
 rw [e] at hv;rw [hrun,fV hv]
end Go.Proofs.YtpibbcnkgdmcbaaGreatDoor
