/- The map of what is done in each state (layer 14): made by `steps`, and asked. -/
import Derived.Test.YtippfeplogkaiaaGreatDoorQueues12
import Derived.Test.YtippfeplogkaiaaGreatDoorSmalls12
import Derived.Maps.StringElems
namespace Go.Proofs.YtippfeplogkaiaaGreatDoor
open Go.RowKit Go.Maps
set_option linter.unusedVariables false
set_option maxRecDepth 100000
def fnElem:Value→Option (DataW Unit×List MemPlace)
  | .func (.func g) a b=>if a.size=0∧b.size=0 then some (.lit (.int .i64 (g:Int)), []) else none
  | .nilFunc=>some (.lit (.int .i64 (-1)), [])
  |_=>none
theorem fnElem_inv {v:Value} {g:Nat} {ps:List MemPlace} (h:fnElem v=some (.lit (.int .i64 (g:Int)),ps)):v= .func (.func g) #[] #[]:=by
  unfold fnElem at h
  split at h
  · rename_i g2 a b
    split at h
    · rename_i hs
      simp only [Option.some.injEq,Prod.mk.injEq,DataW.lit.injEq,Lit.int.injEq] at h
      have h2:g2=g:=Int.ofNat.inj h.1.2
      rw [h2,Array.eq_empty_of_size_eq_zero hs.1,Array.eq_empty_of_size_eq_zero hs.2]
    · cases h
  · simp only [Option.some.injEq,Prod.mk.injEq,DataW.lit.injEq,Lit.int.injEq] at h
    have:=h.1.2
    omega
  · cases h
theorem keyS:Keyed Tryz.prog 9:=string_keyed Tryz.underlying9
def stW (l:List UInt8):ByteArray:=⟨l.toArray⟩
abbrev b_refuse:ByteArray:={data:= #[114,101,102,117,115,101]}
abbrev b_huge:ByteArray:={data:= #[104,117,103,101]}
abbrev b_local:ByteArray:={data:= #[108,111,99,97,108]}
abbrev b_gather:ByteArray:={data:= #[103,97,116,104,101,114]}
abbrev b_fresh:ByteArray:={data:= #[102,114,101,115,104]}
abbrev b_look:ByteArray:={data:= #[108,111,111,107]}
abbrev b_take:ByteArray:={data:= #[116,97,107,101]}
abbrev b_own:ByteArray:={data:= #[111,119,110]}
abbrev b_sweep:ByteArray:={data:= #[115,119,101,101,112]}
abbrev b_grow:ByteArray:={data:= #[103,114,111,119]}
abbrev b_find:ByteArray:={data:= #[102,105,110,100]}
abbrev b_head:ByteArray:={data:= #[104,101,97,100]}
abbrev b_post:ByteArray:={data:= #[112,111,115,116]}
abbrev b_fit:ByteArray:={data:= #[102,105,116]}
abbrev b_copy:ByteArray:={data:= #[99,111,112,121]}
abbrev b_rest:ByteArray:={data:= #[114,101,115,116]}
abbrev b_disown:ByteArray:={data:= #[100,105,115,111,119,110]}
abbrev b_top:ByteArray:={data:= #[116,111,112]}
abbrev b_put:ByteArray:={data:= #[112,117,116]}
abbrev b_done:ByteArray:={data:= #[100,111,110,101]}
def D_refuse:DataW Unit:=DataW.put (.map []) (.string [114,101,102,117,115,101]) (.lit (.int .i64 113))
def D_huge:DataW Unit:=DataW.put D_refuse (.string [104,117,103,101]) (.lit (.int .i64 114))
def D_local:DataW Unit:=DataW.put D_huge (.string [108,111,99,97,108]) (.lit (.int .i64 115))
def D_gather:DataW Unit:=DataW.put D_local (.string [103,97,116,104,101,114]) (.lit (.int .i64 116))
def D_fresh:DataW Unit:=DataW.put D_gather (.string [102,114,101,115,104]) (.lit (.int .i64 117))
def D_look:DataW Unit:=DataW.put D_fresh (.string [108,111,111,107]) (.lit (.int .i64 118))
def D_take:DataW Unit:=DataW.put D_look (.string [116,97,107,101]) (.lit (.int .i64 119))
def D_own:DataW Unit:=DataW.put D_take (.string [111,119,110]) (.lit (.int .i64 120))
def D_sweep:DataW Unit:=DataW.put D_own (.string [115,119,101,101,112]) (.lit (.int .i64 121))
def D_grow:DataW Unit:=DataW.put D_sweep (.string [103,114,111,119]) (.lit (.int .i64 122))
def D_find:DataW Unit:=DataW.put D_grow (.string [102,105,110,100]) (.lit (.int .i64 123))
def D_head:DataW Unit:=DataW.put D_find (.string [104,101,97,100]) (.lit (.int .i64 124))
def D_post:DataW Unit:=DataW.put D_head (.string [112,111,115,116]) (.lit (.int .i64 125))
def D_fit:DataW Unit:=DataW.put D_post (.string [102,105,116]) (.lit (.int .i64 126))
def D_copy:DataW Unit:=DataW.put D_fit (.string [99,111,112,121]) (.lit (.int .i64 127))
def D_rest:DataW Unit:=DataW.put D_copy (.string [114,101,115,116]) (.lit (.int .i64 128))
def D_disown:DataW Unit:=DataW.put D_rest (.string [100,105,115,111,119,110]) (.lit (.int .i64 129))
def D_top:DataW Unit:=DataW.put D_disown (.string [116,111,112]) (.lit (.int .i64 130))
def D_put:DataW Unit:=DataW.put D_top (.string [112,117,116]) (.lit (.int .i64 131))
theorem zeroFn (w:World):(zeroValue 189).run Tryz.prog w= .ok .nilFunc w:=by kernel_rfl
def StepsAt (w:World) (m:Nat):Prop:=w.ownsMap Tryz.prog 9 fnElem m 19 D_put
theorem StepsAt.upd {w w':World} {m:Nat} {T:Nat→Prop} (h:StepsAt w m) (u:Upd T w w') (hm: ¬T m):StepsAt w' m:=by
  obtain ⟨es,clock,hb,F,hs,hD⟩:=h
  have hlt:m<w.heap.size:=(Array.getElem?_eq_some_iff.1 hb).1
  exact ⟨es,clock,(u.block m hlt hm).trans hb,F,hs,hD⟩
theorem StepsAt.lt {w:World} {m:Nat} (h:StepsAt w m):m<w.heap.size:=World.ownsMap.lt h
theorem wpList_insert_own {H:Type} {P:Program} (w:World) {ops:Array Oper} {rest:List Oper} {o:Oper} {a:Act} {Q:Exit→Act→World→Prop}
    (hg:o.guard=none) (m x v:Operand) (t:TypeId) (hop:o.op=Op.insert t m x v)
    (k e:TypeId) (K:Keyed P k) (ht:P.underlying t=some (.map k e)) (R:Value→Option (DataW H×List MemPlace)) (b n:Nat) (D:DataW H)
    (hm:a.eval m= .map (some b)) (hown:w.ownsMap P k R b n D) (hn:n<maxLen) (key val:Value) (kl:Lit) (hx:a.eval x=key) (hv:a.eval v=val) (hkey:keyOf P k key=some kl)
    (d:DataW H) (ps:List MemPlace) (hval:R val=some (d,ps))
    (hK: ∀w',w'.ownsMap P k R b (n+1) (D.put kl d)→w.grownBy w' (some b)→wpList P ops Q rest (a.put o.dst undef) w'):
    wpList P ops Q (o::rest) a w:=by
  refine wpList_plain hg fun K' hK'=> ?_
  obtain ⟨w',hrun,r1,r2⟩:=hown.update K ht hn hkey hval
  unfold Oper.wp
  simp [execOp,hop,hm,hx,hv,hrun,Result.andThen]
  exact hK' _ _ (hK w' r1 r2)
theorem grown_belowB {w w0 w':World} {b:Nat} (h:Below b w0 w) (hg:w.grownBy w' (some b)) (hb:b≤w0.heap.size):Below b w0 w':=
  ⟨hg.os.trans h.os,hg.tape.trans h.tape,hg.output.trans h.output,Nat.le_trans h.size hg.size,fun k hk=>(hg.block k (by have:=h.size;omega) (fun e=>by injection e with e;omega)).trans (h.block k hk)⟩
theorem ky_refuse:keyOf Tryz.prog 9 (.string b_refuse)=some (.string [114,101,102,117,115,101]):=by kernel_rfl
theorem ky_huge:keyOf Tryz.prog 9 (.string b_huge)=some (.string [104,117,103,101]):=by kernel_rfl
theorem ky_local:keyOf Tryz.prog 9 (.string b_local)=some (.string [108,111,99,97,108]):=by kernel_rfl
theorem ky_gather:keyOf Tryz.prog 9 (.string b_gather)=some (.string [103,97,116,104,101,114]):=by kernel_rfl
theorem ky_fresh:keyOf Tryz.prog 9 (.string b_fresh)=some (.string [102,114,101,115,104]):=by kernel_rfl
theorem ky_look:keyOf Tryz.prog 9 (.string b_look)=some (.string [108,111,111,107]):=by kernel_rfl
theorem ky_take:keyOf Tryz.prog 9 (.string b_take)=some (.string [116,97,107,101]):=by kernel_rfl
theorem ky_own:keyOf Tryz.prog 9 (.string b_own)=some (.string [111,119,110]):=by kernel_rfl
theorem ky_sweep:keyOf Tryz.prog 9 (.string b_sweep)=some (.string [115,119,101,101,112]):=by kernel_rfl
theorem ky_grow:keyOf Tryz.prog 9 (.string b_grow)=some (.string [103,114,111,119]):=by kernel_rfl
theorem ky_find:keyOf Tryz.prog 9 (.string b_find)=some (.string [102,105,110,100]):=by kernel_rfl
theorem ky_head:keyOf Tryz.prog 9 (.string b_head)=some (.string [104,101,97,100]):=by kernel_rfl
theorem ky_post:keyOf Tryz.prog 9 (.string b_post)=some (.string [112,111,115,116]):=by kernel_rfl
theorem ky_fit:keyOf Tryz.prog 9 (.string b_fit)=some (.string [102,105,116]):=by kernel_rfl
theorem ky_copy:keyOf Tryz.prog 9 (.string b_copy)=some (.string [99,111,112,121]):=by kernel_rfl
theorem ky_rest:keyOf Tryz.prog 9 (.string b_rest)=some (.string [114,101,115,116]):=by kernel_rfl
theorem ky_disown:keyOf Tryz.prog 9 (.string b_disown)=some (.string [100,105,115,111,119,110]):=by kernel_rfl
theorem ky_top:keyOf Tryz.prog 9 (.string b_top)=some (.string [116,111,112]):=by kernel_rfl
theorem ky_put:keyOf Tryz.prog 9 (.string b_put)=some (.string [112,117,116]):=by kernel_rfl
theorem steps_any (w:World):Calls Tryz.prog 68 #[] w fun e w'=>e= .returned (.map (some w.heap.size))∧StepsAt w' w.heap.size∧Below w.heap.size w w':=by
  have hmm:= @run_makeMap Tryz.prog
  obtain ⟨b,hb⟩: ∃z,w.heap.size=z:=⟨_,rfl⟩
  have H0:=Lib.hid (show (w.alloc (.map #[] 0)).ownsMap Tryz.prog 9 fnElem b 0 (.map []) by rw [←hb];exact World.ownsMap_made w _ _ _)
  have B0:=Lib.hid (show Below b w (w.alloc (.map #[] 0)) from (Below.refl _ w).alloc (by omega) _)
  rw [hb]
  go_enter Tryz.func68,Tryz.ntmps68
  go_wp2_with (first
    |(refine wpList_insert_own _ rfl _ _ _ 133 rfl 9 189 keyS Tryz.underlying133 fnElem b 0 (.map []) rfl H0.out (by unfold maxLen;omega) _ _ _ rfl rfl ky_refuse _ [] (show fnElem (.func (.func 113) #[] #[])=some (.lit (.int .i64 (113:Nat)), []) from rfl) ?_;intro w1 h g;have H1:=Lib.hid h;have B1:=Lib.hid (grown_belowB B0.out g (by omega));clear h g)
    |(refine wpList_insert_own _ rfl _ _ _ 133 rfl 9 189 keyS Tryz.underlying133 fnElem b 1 D_refuse rfl H1.out (by unfold maxLen;omega) _ _ _ rfl rfl ky_huge _ [] (show fnElem (.func (.func 114) #[] #[])=some (.lit (.int .i64 (114:Nat)), []) from rfl) ?_;intro w2 h g;have H2:=Lib.hid h;have B2:=Lib.hid (grown_belowB B1.out g (by omega));clear h g)
    |(refine wpList_insert_own _ rfl _ _ _ 133 rfl 9 189 keyS Tryz.underlying133 fnElem b 2 D_huge rfl H2.out (by unfold maxLen;omega) _ _ _ rfl rfl ky_local _ [] (show fnElem (.func (.func 115) #[] #[])=some (.lit (.int .i64 (115:Nat)), []) from rfl) ?_;intro w3 h g;have H3:=Lib.hid h;have B3:=Lib.hid (grown_belowB B2.out g (by omega));clear h g)
    |(refine wpList_insert_own _ rfl _ _ _ 133 rfl 9 189 keyS Tryz.underlying133 fnElem b 3 D_local rfl H3.out (by unfold maxLen;omega) _ _ _ rfl rfl ky_gather _ [] (show fnElem (.func (.func 116) #[] #[])=some (.lit (.int .i64 (116:Nat)), []) from rfl) ?_;intro w4 h g;have H4:=Lib.hid h;have B4:=Lib.hid (grown_belowB B3.out g (by omega));clear h g)
    |(refine wpList_insert_own _ rfl _ _ _ 133 rfl 9 189 keyS Tryz.underlying133 fnElem b 4 D_gather rfl H4.out (by unfold maxLen;omega) _ _ _ rfl rfl ky_fresh _ [] (show fnElem (.func (.func 117) #[] #[])=some (.lit (.int .i64 (117:Nat)), []) from rfl) ?_;intro w5 h g;have H5:=Lib.hid h;have B5:=Lib.hid (grown_belowB B4.out g (by omega));clear h g)
    |(refine wpList_insert_own _ rfl _ _ _ 133 rfl 9 189 keyS Tryz.underlying133 fnElem b 5 D_fresh rfl H5.out (by unfold maxLen;omega) _ _ _ rfl rfl ky_look _ [] (show fnElem (.func (.func 118) #[] #[])=some (.lit (.int .i64 (118:Nat)), []) from rfl) ?_;intro w6 h g;have H6:=Lib.hid h;have B6:=Lib.hid (grown_belowB B5.out g (by omega));clear h g)
    |(refine wpList_insert_own _ rfl _ _ _ 133 rfl 9 189 keyS Tryz.underlying133 fnElem b 6 D_look rfl H6.out (by unfold maxLen;omega) _ _ _ rfl rfl ky_take _ [] (show fnElem (.func (.func 119) #[] #[])=some (.lit (.int .i64 (119:Nat)), []) from rfl) ?_;intro w7 h g;have H7:=Lib.hid h;have B7:=Lib.hid (grown_belowB B6.out g (by omega));clear h g)
    |(refine wpList_insert_own _ rfl _ _ _ 133 rfl 9 189 keyS Tryz.underlying133 fnElem b 7 D_take rfl H7.out (by unfold maxLen;omega) _ _ _ rfl rfl ky_own _ [] (show fnElem (.func (.func 120) #[] #[])=some (.lit (.int .i64 (120:Nat)), []) from rfl) ?_;intro w8 h g;have H8:=Lib.hid h;have B8:=Lib.hid (grown_belowB B7.out g (by omega));clear h g)
    |(refine wpList_insert_own _ rfl _ _ _ 133 rfl 9 189 keyS Tryz.underlying133 fnElem b 8 D_own rfl H8.out (by unfold maxLen;omega) _ _ _ rfl rfl ky_sweep _ [] (show fnElem (.func (.func 121) #[] #[])=some (.lit (.int .i64 (121:Nat)), []) from rfl) ?_;intro w9 h g;have H9:=Lib.hid h;have B9:=Lib.hid (grown_belowB B8.out g (by omega));clear h g)
    |(refine wpList_insert_own _ rfl _ _ _ 133 rfl 9 189 keyS Tryz.underlying133 fnElem b 9 D_sweep rfl H9.out (by unfold maxLen;omega) _ _ _ rfl rfl ky_grow _ [] (show fnElem (.func (.func 122) #[] #[])=some (.lit (.int .i64 (122:Nat)), []) from rfl) ?_;intro w10 h g;have H10:=Lib.hid h;have B10:=Lib.hid (grown_belowB B9.out g (by omega));clear h g)
    |(refine wpList_insert_own _ rfl _ _ _ 133 rfl 9 189 keyS Tryz.underlying133 fnElem b 10 D_grow rfl H10.out (by unfold maxLen;omega) _ _ _ rfl rfl ky_find _ [] (show fnElem (.func (.func 123) #[] #[])=some (.lit (.int .i64 (123:Nat)), []) from rfl) ?_;intro w11 h g;have H11:=Lib.hid h;have B11:=Lib.hid (grown_belowB B10.out g (by omega));clear h g)
    |(refine wpList_insert_own _ rfl _ _ _ 133 rfl 9 189 keyS Tryz.underlying133 fnElem b 11 D_find rfl H11.out (by unfold maxLen;omega) _ _ _ rfl rfl ky_head _ [] (show fnElem (.func (.func 124) #[] #[])=some (.lit (.int .i64 (124:Nat)), []) from rfl) ?_;intro w12 h g;have H12:=Lib.hid h;have B12:=Lib.hid (grown_belowB B11.out g (by omega));clear h g)
    |(refine wpList_insert_own _ rfl _ _ _ 133 rfl 9 189 keyS Tryz.underlying133 fnElem b 12 D_head rfl H12.out (by unfold maxLen;omega) _ _ _ rfl rfl ky_post _ [] (show fnElem (.func (.func 125) #[] #[])=some (.lit (.int .i64 (125:Nat)), []) from rfl) ?_;intro w13 h g;have H13:=Lib.hid h;have B13:=Lib.hid (grown_belowB B12.out g (by omega));clear h g)
    |(refine wpList_insert_own _ rfl _ _ _ 133 rfl 9 189 keyS Tryz.underlying133 fnElem b 13 D_post rfl H13.out (by unfold maxLen;omega) _ _ _ rfl rfl ky_fit _ [] (show fnElem (.func (.func 126) #[] #[])=some (.lit (.int .i64 (126:Nat)), []) from rfl) ?_;intro w14 h g;have H14:=Lib.hid h;have B14:=Lib.hid (grown_belowB B13.out g (by omega));clear h g)
    |(refine wpList_insert_own _ rfl _ _ _ 133 rfl 9 189 keyS Tryz.underlying133 fnElem b 14 D_fit rfl H14.out (by unfold maxLen;omega) _ _ _ rfl rfl ky_copy _ [] (show fnElem (.func (.func 127) #[] #[])=some (.lit (.int .i64 (127:Nat)), []) from rfl) ?_;intro w15 h g;have H15:=Lib.hid h;have B15:=Lib.hid (grown_belowB B14.out g (by omega));clear h g)
    |(refine wpList_insert_own _ rfl _ _ _ 133 rfl 9 189 keyS Tryz.underlying133 fnElem b 15 D_copy rfl H15.out (by unfold maxLen;omega) _ _ _ rfl rfl ky_rest _ [] (show fnElem (.func (.func 128) #[] #[])=some (.lit (.int .i64 (128:Nat)), []) from rfl) ?_;intro w16 h g;have H16:=Lib.hid h;have B16:=Lib.hid (grown_belowB B15.out g (by omega));clear h g)
    |(refine wpList_insert_own _ rfl _ _ _ 133 rfl 9 189 keyS Tryz.underlying133 fnElem b 16 D_rest rfl H16.out (by unfold maxLen;omega) _ _ _ rfl rfl ky_disown _ [] (show fnElem (.func (.func 129) #[] #[])=some (.lit (.int .i64 (129:Nat)), []) from rfl) ?_;intro w17 h g;have H17:=Lib.hid h;have B17:=Lib.hid (grown_belowB B16.out g (by omega));clear h g)
    |(refine wpList_insert_own _ rfl _ _ _ 133 rfl 9 189 keyS Tryz.underlying133 fnElem b 17 D_disown rfl H17.out (by unfold maxLen;omega) _ _ _ rfl rfl ky_top _ [] (show fnElem (.func (.func 130) #[] #[])=some (.lit (.int .i64 (130:Nat)), []) from rfl) ?_;intro w18 h g;have H18:=Lib.hid h;have B18:=Lib.hid (grown_belowB B17.out g (by omega));clear h g)
    |(refine wpList_insert_own _ rfl _ _ _ 133 rfl 9 189 keyS Tryz.underlying133 fnElem b 18 D_top rfl H18.out (by unfold maxLen;omega) _ _ _ rfl rfl ky_put _ [] (show fnElem (.func (.func 131) #[] #[])=some (.lit (.int .i64 (131:Nat)), []) from rfl) ?_;intro w19 h g;have H19:=Lib.hid h;have B19:=Lib.hid (grown_belowB B18.out g (by omega));clear h g))
  go_wp2
  go_ret
  exact ⟨rfl,H19.out,B19.out⟩
theorem at_refuse {w:World} {m:Nat} (h:StepsAt w m):(Instr.lookup 133 (.map (some m)) (.string b_refuse) false).run Tryz.prog w= .ok (.func (.func 113) #[] #[]) w:=by
  obtain ⟨v,ps,hrun,hv⟩:=World.ownsMap.lookup h keyS Tryz.underlying133 (zeroFn w) (show fnElem .nilFunc=some (.lit (.int .i64 (-1)), []) from rfl) ky_refuse
  have e:DataW.atKey D_put (.string [114,101,102,117,115,101]) (.lit (.int .i64 (-1)))= .lit (.int .i64 ((113:Nat):Int)):=by kernel_rfl
  rw [e] at hv
  rw [hrun,fnElem_inv hv]
theorem at_huge {w:World} {m:Nat} (h:StepsAt w m):(Instr.lookup 133 (.map (some m)) (.string b_huge) false).run Tryz.prog w= .ok (.func (.func 114) #[] #[]) w:=by
  obtain ⟨v,ps,hrun,hv⟩:=World.ownsMap.lookup h keyS Tryz.underlying133 (zeroFn w) (show fnElem .nilFunc=some (.lit (.int .i64 (-1)), []) from rfl) ky_huge
  have e:DataW.atKey D_put (.string [104,117,103,101]) (.lit (.int .i64 (-1)))= .lit (.int .i64 ((114:Nat):Int)):=by kernel_rfl
  rw [e] at hv
  rw [hrun,fnElem_inv hv]
theorem at_local {w:World} {m:Nat} (h:StepsAt w m):(Instr.lookup 133 (.map (some m)) (.string b_local) false).run Tryz.prog w= .ok (.func (.func 115) #[] #[]) w:=by
  obtain ⟨v,ps,hrun,hv⟩:=World.ownsMap.lookup h keyS Tryz.underlying133 (zeroFn w) (show fnElem .nilFunc=some (.lit (.int .i64 (-1)), []) from rfl) ky_local
  have e:DataW.atKey D_put (.string [108,111,99,97,108]) (.lit (.int .i64 (-1)))= .lit (.int .i64 ((115:Nat):Int)):=by kernel_rfl
  rw [e] at hv
  rw [hrun,fnElem_inv hv]
theorem at_fresh {w:World} {m:Nat} (h:StepsAt w m):(Instr.lookup 133 (.map (some m)) (.string b_fresh) false).run Tryz.prog w= .ok (.func (.func 117) #[] #[]) w:=by
  obtain ⟨v,ps,hrun,hv⟩:=World.ownsMap.lookup h keyS Tryz.underlying133 (zeroFn w) (show fnElem .nilFunc=some (.lit (.int .i64 (-1)), []) from rfl) ky_fresh
  have e:DataW.atKey D_put (.string [102,114,101,115,104]) (.lit (.int .i64 (-1)))= .lit (.int .i64 ((117:Nat):Int)):=by kernel_rfl
  rw [e] at hv
  rw [hrun,fnElem_inv hv]
theorem at_look {w:World} {m:Nat} (h:StepsAt w m):(Instr.lookup 133 (.map (some m)) (.string b_look) false).run Tryz.prog w= .ok (.func (.func 118) #[] #[]) w:=by
  obtain ⟨v,ps,hrun,hv⟩:=World.ownsMap.lookup h keyS Tryz.underlying133 (zeroFn w) (show fnElem .nilFunc=some (.lit (.int .i64 (-1)), []) from rfl) ky_look
  have e:DataW.atKey D_put (.string [108,111,111,107]) (.lit (.int .i64 (-1)))= .lit (.int .i64 ((118:Nat):Int)):=by kernel_rfl
  rw [e] at hv
  rw [hrun,fnElem_inv hv]
theorem at_grow {w:World} {m:Nat} (h:StepsAt w m):(Instr.lookup 133 (.map (some m)) (.string b_grow) false).run Tryz.prog w= .ok (.func (.func 122) #[] #[]) w:=by
  obtain ⟨v,ps,hrun,hv⟩:=World.ownsMap.lookup h keyS Tryz.underlying133 (zeroFn w) (show fnElem .nilFunc=some (.lit (.int .i64 (-1)), []) from rfl) ky_grow
  have e:DataW.atKey D_put (.string [103,114,111,119]) (.lit (.int .i64 (-1)))= .lit (.int .i64 ((122:Nat):Int)):=by kernel_rfl
  rw [e] at hv
  rw [hrun,fnElem_inv hv]
theorem at_find {w:World} {m:Nat} (h:StepsAt w m):(Instr.lookup 133 (.map (some m)) (.string b_find) false).run Tryz.prog w= .ok (.func (.func 123) #[] #[]) w:=by
  obtain ⟨v,ps,hrun,hv⟩:=World.ownsMap.lookup h keyS Tryz.underlying133 (zeroFn w) (show fnElem .nilFunc=some (.lit (.int .i64 (-1)), []) from rfl) ky_find
  have e:DataW.atKey D_put (.string [102,105,110,100]) (.lit (.int .i64 (-1)))= .lit (.int .i64 ((123:Nat):Int)):=by kernel_rfl
  rw [e] at hv
  rw [hrun,fnElem_inv hv]
theorem at_fit {w:World} {m:Nat} (h:StepsAt w m):(Instr.lookup 133 (.map (some m)) (.string b_fit) false).run Tryz.prog w= .ok (.func (.func 126) #[] #[]) w:=by
  obtain ⟨v,ps,hrun,hv⟩:=World.ownsMap.lookup h keyS Tryz.underlying133 (zeroFn w) (show fnElem .nilFunc=some (.lit (.int .i64 (-1)), []) from rfl) ky_fit
  have e:DataW.atKey D_put (.string [102,105,116]) (.lit (.int .i64 (-1)))= .lit (.int .i64 ((126:Nat):Int)):=by kernel_rfl
  rw [e] at hv
  rw [hrun,fnElem_inv hv]
theorem at_rest {w:World} {m:Nat} (h:StepsAt w m):(Instr.lookup 133 (.map (some m)) (.string b_rest) false).run Tryz.prog w= .ok (.func (.func 128) #[] #[]) w:=by
  obtain ⟨v,ps,hrun,hv⟩:=World.ownsMap.lookup h keyS Tryz.underlying133 (zeroFn w) (show fnElem .nilFunc=some (.lit (.int .i64 (-1)), []) from rfl) ky_rest
  have e:DataW.atKey D_put (.string [114,101,115,116]) (.lit (.int .i64 (-1)))= .lit (.int .i64 ((128:Nat):Int)):=by kernel_rfl
  rw [e] at hv
  rw [hrun,fnElem_inv hv]
end Go.Proofs.YtippfeplogkaiaaGreatDoor
