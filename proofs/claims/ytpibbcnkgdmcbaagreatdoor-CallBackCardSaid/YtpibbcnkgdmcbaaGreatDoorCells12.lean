/- Cells12: texts of layers below, joined (CellCl Cell8a CellW PlaceBlk). -/
import Derived.Test.YtpibbcnkgdmcbaaGreatDoorElems
import Derived.Test.YtpibbcnkgdmcbaaGreatDoorPlaces
import Derived.WalkKit
import Derived.Deep.QuietTactic
import Derived.BigQuiet
set_option linter.unusedVariables false
namespace Go.Proofs.YtpibbcnkgdmcbaaGreatDoor
open Go.RowKit
def CC (w:World) (b o x t:Nat) (n:Int):Prop:= ∃ty cs,aV w b ty cs∧cs[o]? =some (.int .u64 (x:Int))∧cs[o+1]? =some (.int .u64 (t:Int))∧cs[o+2]? =some (.int .i64 n)
def zG (b o:Nat) (c i:Nat):Prop:=c=b∧(i=o∨i=o+1∨i=o+2)
theorem CC.lt {w:World} {b o x t:Nat} {n:Int} (h:CC w b o x t n):b<w.heap.size:=by obtain ⟨ty,cs,k,_⟩:=h;exact k.lt
theorem CC.upd {S:Nat→Prop} {w w':World} {b o x t:Nat} {n:Int} (h:CC w b o x t n) (u:aH S w w') (hs: ¬S b):CC w' b o x t n:=by obtain ⟨ty,cs,k,e⟩:=h;exact ⟨ty,cs,k.upd u hs,e⟩
def Elem.ptrs:Elem (Option Addr):=⟨1,fun a=> [.pointer a],fun _=>rfl,by intro x u h;rw [List.mem_singleton.1 h];rfl,by decide⟩
def YG:List Int→Int
 | []=>0
 |a::t=>a+YG t
abbrev Z0 (t:Nat):Prop:=t≤1000000000
abbrev X_ (n:Int):Prop:=0≤n∧n≤1000000000
structure OC (w:World) (b x t:Nat) (n:Int) (w':World):Prop where
 cc:CC w' b 0 x t n
 fb:w.heap.size≤b
 below:Below w.heap.size w w'
theorem OC.turn {w w' w2:World} {b x t y s:Nat} {n m:Int} (h:OC w b x t n w') (c:CC w2 b 0 y s m) (W:dA (fun _=>False) (zG b 0) w' w2):OC w b y s m w2:=
 ⟨c,h.fb,h.below.trans (W.below (fun _ h=>h.elim) (fun c i hc=>by rw [hc.1];exact h.fb) h.below.size)⟩
theorem OC.grew {w w' w2:World} {b x t:Nat} {n:Int} (h:OC w b x t n w') (hb:Below w'.heap.size w' w2):OC w b x t n w2:=⟨h.cc.upd (ak hb) id,h.fb,ah h.below h.below.size hb⟩
theorem OC.new {w w1:World} (ty:TypeId) (hb:Below w.heap.size w w1) {b:Nat} (e:w1.heap.size=b):OC w b 0 0 0 (w1.alloc (.cells #[.int .u64 0, .int .u64 0, .int .i64 0] ty)):=by
 subst e;exact ⟨⟨ty,_,aV.new w1 ty _,rfl,rfl,rfl⟩,hb.size,hb.alloc hb.size _⟩
section
variable {w:World} {b x t:Nat} {n:Int}
end
end Go.Proofs.YtpibbcnkgdmcbaaGreatDoor
namespace Go.Proofs.YtpibbcnkgdmcbaaGreatDoor
open Go.RowKit
section
variable {w:World} {b o x t:Nat} {n:Int}
theorem CC.c0 (h:CC w b o x t n):w.cell? ⟨b,o,none⟩=some (.int .u64 (x:Int)):=by obtain ⟨ty,cs,k,e0,e1,e2⟩:=h;rw [k.cell];exact e0
theorem CC.c1 (h:CC w b o x t n):w.cell? ⟨b,o+1,none⟩=some (.int .u64 (t:Int)):=by obtain ⟨ty,cs,k,e0,e1,e2⟩:=h;rw [k.cell];exact e1
theorem CC.c2 (h:CC w b o x t n):w.cell? ⟨b,o+2,none⟩=some (.int .i64 n):=by obtain ⟨ty,cs,k,e0,e1,e2⟩:=h;rw [k.cell];exact e2
theorem CC.frozen (h:CC w b o x t n) (i:Nat):w.frozen? ⟨b,i,none⟩=false:=by obtain ⟨ty,cs,k,e0,e1,e2⟩:=h;exact k.frozen i
theorem CC.word (h:CC w b o x t n) (y:Nat):CC (w.setCell ⟨b,o,none⟩ (.int .u64 (y:Int))) b o y t n:=by
 obtain ⟨ty,cs,k,e0,e1,e2⟩:=h;refine ⟨ty,_,k.put o _, ?_, ?_, ?_⟩
 · obtain ⟨l,_⟩:=Array.getElem?_eq_some_iff.1 e0
   rw [Array.getElem?_setIfInBounds_self_of_lt l]
 · rw [Array.getElem?_setIfInBounds,if_neg (by omega)];exact e1
 · rw [Array.getElem?_setIfInBounds,if_neg (by omega)];exact e2
theorem CC.tag (h:CC w b o x t n) (s:Nat) (v:Int) (hv:v=(s:Int)):CC (w.setCell ⟨b,o+1,none⟩ (.int .u64 v)) b o x s n:=by
 subst hv;obtain ⟨ty,cs,k,e0,e1,e2⟩:=h;refine ⟨ty,_,k.put (o+1) _, ?_, ?_, ?_⟩
 · rw [Array.getElem?_setIfInBounds,if_neg (by omega)];exact e0
 · obtain ⟨l,_⟩:=Array.getElem?_eq_some_iff.1 e1
   rw [Array.getElem?_setIfInBounds_self_of_lt l]
 · rw [Array.getElem?_setIfInBounds,if_neg (by omega)];exact e2
theorem CC.ask (h:CC w b o x t n) (m:Int):CC (w.setCell ⟨b,o+2,none⟩ (.int .i64 m)) b o x t m:=by
 obtain ⟨ty,cs,k,e0,e1,e2⟩:=h;refine ⟨ty,_,k.put (o+2) _, ?_, ?_, ?_⟩
 · rw [Array.getElem?_setIfInBounds,if_neg (by omega)];exact e0
 · rw [Array.getElem?_setIfInBounds,if_neg (by omega)];exact e1
 · obtain ⟨l,_⟩:=Array.getElem?_eq_some_iff.1 e2
   rw [Array.getElem?_setIfInBounds_self_of_lt l]
end
theorem CC.drewN {w:World} {b o x t:Nat} {n:Int} (h:CC w b o x t n) (k:Nat):CC (w.drewN k) b o x t n:=h
theorem dA.drewN {S:Nat→Prop} {C:Nat→Nat→Prop} {w w':World} (h:dA S C w w') (k:Nat):dA S C w (w'.drewN k):=⟨⟨h.upd.os,h.upd.tape,h.upd.output,h.upd.size,h.upd.block⟩,h.blk⟩
theorem IY (w:World) {b o x t:Nat} {n:Int} (h:CC w b o x t n) (ht:Z0 t) (y:Nat) (hy:y≤18446744073709551615):
 Calls Tryz.prog 123 #[.pointer (some ⟨b,o,none⟩), .int .u64 (y:Int)] w fun e w'=>e= .returned (.tuple #[])∧CC w' b o y (t+1) n∧dA (fun _=>False) (zG b o) w w':=by
 have c0:=h.c0;have c1:=h.c1;have f0:=h.frozen o;have f1:=h.frozen (o+1);have HH:=Lib.hid h;have h1:(t:Int)≤1000000000:=by have:t≤1000000000:=ht;omega
 clear h ht;go_enter Tryz.func123,Tryz.ntmps123
 go_wp2;refine bodyPost_end (results_none rfl _ _ _) rfl ?_;exact ⟨rfl,(HH.out.word y).tag (t+1) _ (by go_num),((dA.refl _ _ w).setCell ⟨rfl,Or.inl rfl⟩ _).setCell ⟨rfl,Or.inr (Or.inl rfl)⟩ _⟩
theorem M_ (w:World) {b o x t:Nat} {n:Int} (h:CC w b o x t n) (hn:X_ n):
 Calls Tryz.prog 89 #[.pointer (some ⟨b,o,none⟩)] w fun e w'=>e= .returned (.tuple #[.int .u64 (x:Int), .int .u64 (t:Int)])∧CC w' b o x t (n+1)∧dA (fun _=>False) (zG b o) w w':=by
 have c0:=h.c0;have c1:=h.c1;have c2:=h.c2;have f2:=h.frozen (o+2);have HH:=Lib.hid h;obtain ⟨hn0,hn1⟩:=hn;have W:=Lib.hid ((dA.refl (fun _=>False) (zG b o) w).setCell (b:=b) (i:=o+2) ⟨rfl,Or.inr (Or.inr rfl)⟩ (.int .i64 (n+1)));have K:=Lib.hid (h.ask (n+1));clear h;go_enter Tryz.func89,Tryz.ntmps89
 go_wp2;go_quiet (fail)
 go_wp2
 go_ret2
 exact ⟨rfl,K.out.drewN nq,W.out.drewN nq⟩
theorem Q0 (w:World) {b o x t:Nat} {n:Int} (h:CC w b o x t n) (hn:X_ n) (ht:Z0 t) (g y:Nat) (hg:g≤18446744073709551615) (hy:y≤18446744073709551615):
 Calls Tryz.prog 122 #[.pointer (some ⟨b,o,none⟩), .int .u64 (g:Int), .int .u64 (y:Int)] w fun e w'=>e= .returned (.bool (decide (g=t)))∧CC w' b o (if g=t then y else x) (if g=t then t+1 else t) (n+1)∧dA (fun _=>False) (zG b o) w w':=by
 have c1:=h.c1;have c2:=h.c2;have f2:=h.frozen (o+2);obtain ⟨hn0,hn1⟩:=hn;have W:=Lib.hid ((dA.refl (fun _=>False) (zG b o) w).setCell (b:=b) (i:=o+2) ⟨rfl,Or.inr (Or.inr rfl)⟩ (.int .i64 (n+1)));have H:=Lib.hid (IY _ (h.ask (n+1)) ht y hy);have K0:=Lib.hid (h.ask (n+1));by_cases hgt:g=t
 · rw [decide_eq_true hgt,if_pos hgt,if_pos hgt]
   have t1:((t:Int) !=(g:Int))=false:=by rw [hgt];simp
   clear h ht hgt;go_enter Tryz.func122,Tryz.ntmps122
   go_wp2_with fail
   refine H.out.mono ?_;rintro e w1 ⟨rfl,k1,k2⟩;have K:=Lib.hid k1;have W2:=Lib.hid (W.out.trans k2);clear k1 k2 c1 c2 f2;go_wp2;go_ret;exact ⟨rfl,K.out,W2.out⟩
 · rw [decide_eq_false hgt,if_neg hgt,if_neg hgt]
   have t1:((t:Int) !=(g:Int))=true:=by rw [bne_iff_ne];omega
   clear h ht hgt H;go_enter Tryz.func122,Tryz.ntmps122
   go_wp2;go_ret;exact ⟨rfl,K0.out,W.out⟩
def aaQ (l:List (Option Addr)) (f:Addr→Int) (j:Nat):Int:=YG ((l.take j).map fun p=>p.elim 0 f)
end Go.Proofs.YtpibbcnkgdmcbaaGreatDoor
namespace Go.Proofs.YtpibbcnkgdmcbaaGreatDoor
open Go.RowKit
def xB (t:Nat):Nat:=(t+1)%18446744073709551616
theorem Og (t:Nat):IntKind.u64.wrap ((t:Int)+1)=((xB t:Nat):Int):=by
 unfold xB;simp [IntKind.wrap,IntKind.bits,IntKind.signed]
theorem vN (w:World) {b o x t:Nat} {n:Int} (h:CC w b o x t n) (y:Nat):
 Calls Tryz.prog 123 #[.pointer (some ⟨b,o,none⟩), .int .u64 (y:Int)] w fun e w'=>e= .returned (.tuple #[])∧CC w' b o y (xB t) n∧dA (fun _=>False) (zG b o) w w':=by
 have c0:=h.c0;have c1:=h.c1;have f0:=h.frozen o;have f1:=h.frozen (o+1);have HH:=Lib.hid h;have hw:=Og t;clear h;go_enter Tryz.func123,Tryz.ntmps123
 go_wp2;refine bodyPost_end (results_none rfl _ _ _) rfl ?_;exact ⟨rfl,(HH.out.word y).tag (xB t) _ rfl,((dA.refl _ _ w).setCell ⟨rfl,Or.inl rfl⟩ _).setCell ⟨rfl,Or.inr (Or.inl rfl)⟩ _⟩
theorem IW (w:World) {b o x t:Nat} {n:Int} (h:CC w b o x t n):
 Calls Tryz.prog 89 #[.pointer (some ⟨b,o,none⟩)] w fun e w'=>e= .returned (.tuple #[.int .u64 (x:Int), .int .u64 (t:Int)])∧CC w' b o x t (wrap64 (n+1))∧dA (fun _=>False) (zG b o) w w':=by
 have c0:=h.c0;have c1:=h.c1;have c2:=h.c2;have f2:=h.frozen (o+2);obtain ⟨m,hm⟩: ∃m,wrap64 (n+1)=m:=⟨_,rfl⟩;have W:=Lib.hid ((dA.refl (fun _=>False) (zG b o) w).setCell (b:=b) (i:=o+2) ⟨rfl,Or.inr (Or.inr rfl)⟩ (.int .i64 m));have K:=Lib.hid (h.ask m);rw [hm];clear h;go_enter Tryz.func89,Tryz.ntmps89
 go_wp2;go_quiet (fail)
 go_wp2
 go_ret2
 exact ⟨rfl,K.out.drewN nq,W.out.drewN nq⟩
theorem IV (w:World) {b o x t:Nat} {n:Int} (h:CC w b o x t n) (y:Nat):
 Calls Tryz.prog 173 #[.pointer (some ⟨b,o,none⟩), .int .u64 (y:Int)] w fun e w'=>e= .returned (.int .u64 (x:Int))∧CC w' b o y (xB t) (wrap64 (n+1))∧dA (fun _=>False) (zG b o) w w':=by
 have c0:=h.c0;have c2:=h.c2;have f2:=h.frozen (o+2);obtain ⟨m,hm⟩: ∃m,wrap64 (n+1)=m:=⟨_,rfl⟩;have W:=Lib.hid ((dA.refl (fun _=>False) (zG b o) w).setCell (b:=b) (i:=o+2) ⟨rfl,Or.inr (Or.inr rfl)⟩ (.int .i64 m));have H:=Lib.hid (vN _ (h.ask m) y);rw [hm];clear h;go_enter Tryz.func173,Tryz.ntmps173
 go_wp2_with fail
 refine H.out.mono ?_;rintro e w1 ⟨rfl,k1,k2⟩;have K:=Lib.hid k1;have W2:=Lib.hid (W.out.trans k2);clear k1 k2 c0 c2 f2;go_wp2;go_ret;exact ⟨rfl,K.out,W2.out⟩
end Go.Proofs.YtpibbcnkgdmcbaaGreatDoor
namespace Go.Proofs.YtpibbcnkgdmcbaaGreatDoor
open Go.RowKit
theorem Fp {w:World} {b:Nat} {t t':TypeId} {cs cs':Array Value} (h:aV w b t cs) (k:aV w b t' cs'):t=t'∧cs=cs':=by
 have h1:w.heap[b]? =some (.cells cs t):=h;have h2:w.heap[b]? =some (.cells cs' t'):=k;rw [h1] at h2;injection h2 with h2
 injection h2 with h3 h4
 exact ⟨h4,h3⟩
theorem aV.ofList {Z:Nat→Prop} {w w':World} {lp o h:Nat} {n:Int} {T:TypeId} {A:Array Value} (k:aV w lp T A) (W:dA Z (qZ lp o) w w') (hz: ¬Z lp) (l:dD w' lp o h n):aV w' lp T ((A.setIfInBounds o (.int .u64 (h:Int))).setIfInBounds (o+1) (.int .i64 n)):=by
 obtain ⟨cs',b',s',e'⟩:=W.blk lp hz T A k;obtain ⟨t2,cs2,b2,e0,e1⟩:=l;obtain ⟨rfl,rfl⟩:=Fp b' b2;have e:cs'=((A.setIfInBounds o (.int .u64 (h:Int))).setIfInBounds (o+1) (.int .i64 n)):=by
  apply Array.ext_getElem?;intro i;obtain ⟨l0,_⟩:=Array.getElem?_eq_some_iff.1 e0;obtain ⟨l1,_⟩:=Array.getElem?_eq_some_iff.1 e1;by_cases h1:i=o+1
  · subst h1
    rw [e1,Array.getElem?_setIfInBounds_self_of_lt (by simp;omega)]
  · rw [Array.getElem?_setIfInBounds_ne (by omega)]
    by_cases h0:i=o
    · subst h0
      rw [e0,Array.getElem?_setIfInBounds_self_of_lt (by omega)]
    · rw [Array.getElem?_setIfInBounds_ne (by omega)]
      exact e' i (fun x=>by rcases x.2 with y|y;exact h0 y;exact h1 y)
 rw [←e];exact b'
theorem aV.BQ {Z:Nat→Prop} {w w':World} {lp o x t:Nat} {n:Int} {T:TypeId} {A:Array Value} (k:aV w lp T A) (W:dA Z (zG lp o) w w') (hz: ¬Z lp) (l:CC w' lp o x t n):aV w' lp T (((A.setIfInBounds o (.int .u64 (x:Int))).setIfInBounds (o+1) (.int .u64 (t:Int))).setIfInBounds (o+2) (.int .i64 n)):=by
 obtain ⟨cs',b',s',e'⟩:=W.blk lp hz T A k;obtain ⟨t2,cs2,b2,e0,e1,e2⟩:=l;obtain ⟨rfl,rfl⟩:=Fp b' b2;have e:cs'=(((A.setIfInBounds o (.int .u64 (x:Int))).setIfInBounds (o+1) (.int .u64 (t:Int))).setIfInBounds (o+2) (.int .i64 n)):=by
  apply Array.ext_getElem?;intro i;obtain ⟨l0,_⟩:=Array.getElem?_eq_some_iff.1 e0;obtain ⟨l1,_⟩:=Array.getElem?_eq_some_iff.1 e1;obtain ⟨l2,_⟩:=Array.getElem?_eq_some_iff.1 e2;by_cases h2:i=o+2
  · subst h2
    rw [e2,Array.getElem?_setIfInBounds_self_of_lt (by simp;omega)]
  · rw [Array.getElem?_setIfInBounds_ne (by omega)]
    by_cases h1:i=o+1
    · subst h1
      rw [e1,Array.getElem?_setIfInBounds_self_of_lt (by simp;omega)]
    · rw [Array.getElem?_setIfInBounds_ne (by omega)]
      by_cases h0:i=o
      · subst h0
        rw [e0,Array.getElem?_setIfInBounds_self_of_lt (by omega)]
      · rw [Array.getElem?_setIfInBounds_ne (by omega)]
        exact e' i (fun x=>by rcases x.2 with y|y|y;exact h0 y;exact h1 y;exact h2 y)
 rw [←e];exact b'
end Go.Proofs.YtpibbcnkgdmcbaaGreatDoor
