/- Pages12: texts of layers below, joined (PageGood PageA PageB PageC PageD PageE PageF PageG PageH). -/
import Derived.Test.YtpibbcnkgdmcbaaGreatDoorWheres12
import Derived.Test.YtpibbcnkgdmcbaaGreatDoorPageCl
import Derived.Test.YtpibbcnkgdmcbaaGreatDoorCells12
import Derived.Test.YtpibbcnkgdmcbaaGreatDoorGeos12
import Derived.Test.YtpibbcnkgdmcbaaGreatDoorLists12
import Derived.Test.YtpibbcnkgdmcbaaGreatDoorMaths12
set_option linter.unusedVariables false
set_option maxRecDepth 100000
set_option maxHeartbeats 4000000
namespace Go.Proofs.YtpibbcnkgdmcbaaGreatDoor.aF
open aC aG ay
theorem aJ.Zx {L:List Nat} {S:PG} (g:aJ L S):S.F.headD 0≤1048576:=g.cF.sD g.big
theorem aJ.J5 {L:List Nat} {S:PG} (g:aJ L S):S.G.headD 0≤1048576:=g.cG.sD g.big
theorem aJ.sizes {L:List Nat} {S:PG} (g:aJ L S):S.f+16≤1048576∧S.s≤1048576∧S.n≤L.length:=by
 have h1:=g.fit;have h2:=g.big;have h3:=g.s16;have h4:=g.n1;have h5:=Nat.mul_le_mul h4 (Nat.le_refl S.s);have h6:=Nat.mul_le_mul (Nat.le_refl S.n) h3;omega
theorem aJ.SH {L:List Nat} {S:PG} (g:aJ L S) (h:S.F= []):aJ L {S with F:=S.G,G:= []}:=
 ⟨g.f0,g.s16,g.n1,g.n2,g.fit,g.big,g.made,g.cG,rfl,g.EB,(by intro a h;cases h),by have:=g.nd;rw [h,List.nil_append] at this;show (S.G++ []).Nodup;rwa [List.append_nil]⟩
theorem aJ.pop {L:List Nat} {S:PG} {a:Nat} {t:List Nat} (g:aJ L S) (u:Nat) (hF:S.F=a::t):aJ L {S with F:=t,used:=u}∧dX L a=t.headD 0∧a+8≤L.length:=by
 have hc:=g.cF;rw [hF] at hc;obtain ⟨_,h0,h8,hc⟩:=hc;have hl:=qU hc;refine ⟨⟨g.f0,g.s16,g.n1,g.n2,g.fit,g.big,g.made, ?_,g.cG,fun x hx=>g.FW x (by rw [hF];exact List.mem_cons_of_mem _ hx),g.EB, ?_⟩,hl,h8⟩
 · show Chain L (t.headD 0) t
   rw [←hl];exact hc
 · have:=g.nd
   rw [hF,List.cons_append] at this;exact (List.nodup_cons.1 this).2
theorem aJ.more {L L':List Nat} {S:PG} {k:Nat} (g:aJ L S) (h2:S.G= []) (hk:S.made+k≤S.n) (hl:L'.length=L.length) (hc:Chain L' ((news S.f S.s S.made k).headD 0) (news S.f S.s S.made k)):aJ L' {S with F:=news S.f S.s S.made k,made:=S.made+k}:=by
 refine ⟨g.f0,g.s16,g.n1,g.n2,by rw [hl];exact g.fit,by rw [hl];exact g.big,hk,hc, ?_,fun a ha=>lW ha, ?_, ?_⟩
 · show Chain L' (S.G.headD 0) S.G
   rw [h2];rfl
 · intro a ha
   have ha':a∈S.G:=ha;rw [h2] at ha';cases ha'
 · show (news S.f S.s S.made k++S.G).Nodup
   rw [h2,List.append_nil];exact qH (by have:=g.s16;omega)
theorem aJ.back {L:List Nat} {S:PG} {a:Nat} (g:aJ L S) (u:Nat) (ha:bO S.f S.s S.made a) (hf:a∉S.F) (hg:a∉S.G):
 aJ (iC L a (S.G.headD 0)) {S with G:=a::S.G,used:=u}∧a≠0∧a+8≤L.length:=by
 have h0:=ha.pos g.f0;have hfit:=ha.fits g.made g.fit;have hs:=g.s16;have h8:a+8≤L.length:=by omega
 have hl:=fQ (L:=L) (x:=S.G.headD 0) h8;refine ⟨⟨g.f0,g.s16,g.n1,g.n2,by rw [hl];exact g.fit,by rw [hl];exact g.big,g.made, ?_, ?_,g.FW, ?_, ?_⟩,h0,h8⟩
 · exact Chain.put h8 g.cF fun b hb=>ha.jN hs (g.FW b hb) (by rintro rfl;exact hf hb)
 · exact Chain.push g.cG h0 h8 (fun b hb=>ha.jN hs (g.EB b hb) (by rintro rfl;exact hg hb)) (by have:=g.J5;omega)
 · intro x hx
   rcases List.mem_cons.1 hx with rfl|hx
   · exact ha
   · exact g.EB x hx
 · refine List.perm_middle.nodup_iff.2 (List.nodup_cons.2 ⟨fun x=> ?_,g.nd⟩)
   rcases List.mem_append.1 x with x|x
   · exact hf x
   · exact hg x
theorem aJ.ZI {L P:List Nat} {S:PG} (g:aJ L S) (hc:Chain L S.cw P) (hP:P≠ []) (hin: ∀x∈P,bO S.f S.s S.made x∧x∉S.F∧x∉S.G) (hn:P.Nodup):
 aJ (iC L (ku P) (S.G.headD 0)) (iB S P)∧ku P∈P∧ku P+8≤L.length:=by
 rcases List.eq_nil_or_concat P with e|⟨o,z,e⟩
 · exact absurd e hP
 rw [List.concat_eq_append] at e;subst e;have hz:ku (o++ [z])=z:=by unfold ku;simp
 rw [hz];have hm:z∈o++ [z]:=List.mem_append_right _ (List.mem_singleton.2 rfl);obtain ⟨hb,hf,hg⟩:=hin z hm;have hs:=g.s16;have hfit:=hb.fits g.made g.fit;have h8:z+8≤L.length:=by omega
 have hl:=fQ (L:=L) (x:=S.G.headD 0) h8;have hzo:z∉o:=fun x=>(List.nodup_append.1 hn).2.2 z x z (List.mem_singleton.2 rfl) rfl;refine ⟨⟨g.f0,g.s16,g.n1,g.n2,by rw [hl];exact g.fit,by rw [hl];exact g.big,g.made, ?_, ?_,g.FW, ?_, ?_⟩,hm,h8⟩
 · exact Chain.put h8 g.cF fun b hb2=>hb.jN hs (g.FW b hb2) (by rintro rfl;exact hf hb2)
 · have:=Chain.join h8 (by have:=g.J5;omega) g.cG (fun b hb2=>hb.jN hs (g.EB b hb2) (by rintro rfl;exact hg hb2)) hc (fun b hb2=>hb.jN hs (hin b (List.mem_append_left _ hb2)).1 (by rintro rfl;exact hzo hb2))
   show Chain _ ((o++ [z]++S.G).headD 0) (o++ [z]++S.G);rw [←qU this];exact this
 · intro x hx
   rcases List.mem_append.1 hx with hx|hx
   · exact (hin x hx).1
   · exact g.EB x hx
 · show (S.F++(o++ [z]++S.G)).Nodup
   have h1:=List.nodup_append.1 g.nd;rw [List.nodup_append];refine ⟨h1.1, ?_,fun a ha b hb2 hab=> ?_⟩
   · rw [List.nodup_append]
     exact ⟨hn,h1.2.1,fun a ha b hb2 hab=>by subst hab;exact (hin a ha).2.2 hb2⟩
   · subst hab
     rcases List.mem_append.1 hb2 with hb2|hb2
     · exact (hin a hb2).2.1 ha
     · exact h1.2.2 a ha a hb2 rfl
theorem fB {L:List Nat} {S:PG} {k r a:Nat} (g1:0<S.f) (g2:16≤S.s) (g3:S.f+S.n*S.s≤L.length) (g4:L.length≤1048576) (hk:S.made+k≤S.n) (hr:r<k) (ha:a=S.f+(S.made+(k-(r+1)))*S.s)
 (hc:Chain L ((news S.f S.s (S.made+(k-r)) r).headD 0) (news S.f S.s (S.made+(k-r)) r)):
 dB ⟨L,(news S.f S.s (S.made+(k-r)) r).headD 0,(r:Int)⟩ a=(⟨iC L a ((news S.f S.s (S.made+(k-r)) r).headD 0),a,(r:Int)+1⟩,0)∧
  news S.f S.s (S.made+(k-(r+1))) (r+1)=a::news S.f S.s (S.made+(k-r)) r∧
  Chain (iC L a ((news S.f S.s (S.made+(k-r)) r).headD 0)) a (a::news S.f S.s (S.made+(k-r)) r)∧Agree L (iC L a ((news S.f S.s (S.made+(k-r)) r).headD 0)) [a]∧a∈news S.f S.s S.made k∧a≤1048576:=by
 have hb:bO S.f S.s S.n a:=⟨_,by omega,ha⟩;have h0:=hb.pos g1;have hfit:=hb.fits (Nat.le_refl _) g3;have h8:a+8≤L.length:=by omega
 have hh:=hc.sD g4;have en:news S.f S.s (S.made+(k-(r+1))) (r+1)=a::news S.f S.s (S.made+(k-r)) r:=by
  rw [um (by omega),←ha,show S.made+(k-(r+1))+1=S.made+(k-r) by omega,Nat.add_sub_cancel]
 refine ⟨?_,en, ?_,Agree.put h8, ?_,by omega⟩
 · unfold dB;rw [if_neg h0,if_pos h8]
 · refine Chain.push hc h0 h8 (fun b hb2=> ?_) (by omega)
   have hb3:bO S.f S.s (S.made+(k-r)+r) b:=lW hb2;refine hb.jN g2 hb3 ?_;rintro rfl;have hn:=qH (f:=S.f) (s:=S.s) (made:=S.made+(k-(r+1))) (k:=r+1) (by omega);rw [en] at hn;exact (List.nodup_cons.1 hn).1 hb2
 · unfold news
   exact List.mem_map.2 ⟨k-(r+1),List.mem_range.2 (by omega),ha.symm⟩
theorem iN {S:PG} {a:Nat} {t:List Nat} (h:(aW S).F=a::t):aP S=({aW S with F:=t,used:=S.used+1},a,0):=by unfold aP;rw [h]
theorem jw {S:PG} (h:(aW S).F= []):aP S=(S,0,4):=by unfold aP;rw [h]
theorem Gx {S:PG} (h:S.made=S.F.length+S.G.length+S.used):(aW S).made=(aW S).F.length+(aW S).G.length+S.used:=by
 by_cases h1:S.F= []
 · by_cases h2:S.G= []
   · rw [(fA h1 h2).1]
     show S.made+_=(news _ _ _ _).length+S.G.length+_;rw [oH];rw [h1] at h;simp at h⊢;omega
   · rw [(iq h1 h2).1]
     show S.made=S.G.length+0+S.used;rw [h1] at h;simp at h;omega
 · rw [(gN h1).1];exact h
end Go.Proofs.YtpibbcnkgdmcbaaGreatDoor.aF
namespace Go.Proofs.YtpibbcnkgdmcbaaGreatDoor
open Go.RowKit aC aF aG
def TS (p:Nat) (S:PG):Array Value:= #[.int .u64 (S.f:Int), .int .u64 (S.s:Int), .int .i64 (S.n:Int), .pointer (some ⟨p,0,none⟩), .int .i64 (S.made:Int), .int .i64 (S.used:Int), .int .u64 ((S.F.headD 0:Nat):Int), .int .i64 (S.F.length:Int), .int .u64 ((S.G.headD 0:Nat):Int), .int .i64 (S.G.length:Int), .int .u64 (S.cw:Int), .int .u64 ((S.ct%18446744073709551616:Nat):Int), .int .i64 (wrap64 (S.ca:Int))]
structure dU (w:World) (pp p g:Nat) (L:List Nat) (S:PG):Prop where
 B:aV w pp 140 (TS p S)
 mem:bC w p g L
 np:pp≠p
 ng:pp≠g
def OO (pp p g:Nat) (b:Nat):Prop:=b=pp∨b=p∨b=g
section
variable {w w':World} {pp p g:Nat} {L:List Nat} {S:PG}
theorem dU.c0 (h:dU w pp p g L S):w.cell? ⟨pp,0,none⟩=some (.int .u64 (S.f:Int)):=h.B.cell 0
theorem dU.c1 (h:dU w pp p g L S):w.cell? ⟨pp,1,none⟩=some (.int .u64 (S.s:Int)):=h.B.cell 1
theorem dU.c2 (h:dU w pp p g L S):w.cell? ⟨pp,2,none⟩=some (.int .i64 (S.n:Int)):=h.B.cell 2
theorem dU.c3 (h:dU w pp p g L S):w.cell? ⟨pp,3,none⟩=some (.pointer (some ⟨p,0,none⟩)):=h.B.cell 3
theorem dU.c4 (h:dU w pp p g L S):w.cell? ⟨pp,4,none⟩=some (.int .i64 (S.made:Int)):=h.B.cell 4
theorem dU.c5 (h:dU w pp p g L S):w.cell? ⟨pp,5,none⟩=some (.int .i64 (S.used:Int)):=h.B.cell 5
theorem dU.c6 (h:dU w pp p g L S):w.cell? ⟨pp,6,none⟩=some (.int .u64 ((S.F.headD 0:Nat):Int)):=h.B.cell 6
theorem dU.c7 (h:dU w pp p g L S):w.cell? ⟨pp,7,none⟩=some (.int .i64 (S.F.length:Int)):=h.B.cell 7
theorem dU.c8 (h:dU w pp p g L S):w.cell? ⟨pp,8,none⟩=some (.int .u64 ((S.G.headD 0:Nat):Int)):=h.B.cell 8
theorem dU.c9 (h:dU w pp p g L S):w.cell? ⟨pp,9,none⟩=some (.int .i64 (S.G.length:Int)):=h.B.cell 9
theorem dU.c10 (h:dU w pp p g L S):w.cell? ⟨pp,10,none⟩=some (.int .u64 (S.cw:Int)):=h.B.cell 10
theorem dU.c11 (h:dU w pp p g L S):w.cell? ⟨pp,11,none⟩=some (.int .u64 ((S.ct%18446744073709551616:Nat):Int)):=h.B.cell 11
theorem dU.c12 (h:dU w pp p g L S):w.cell? ⟨pp,12,none⟩=some (.int .i64 (wrap64 (S.ca:Int))):=h.B.cell 12
theorem dU.fz (h:dU w pp p g L S) (i:Nat):w.frozen? ⟨pp,i,none⟩=false:=h.B.frozen i
theorem dU.lt (h:dU w pp p g L S):pp<w.heap.size:=h.B.lt
theorem dU.upd {T:Nat→Prop} (h:dU w pp p g L S) (u:aH T w w') (hT: ∀b,T b→ ¬OO pp p g b):dU w' pp p g L S:=
 ⟨h.B.upd u (fun x=>hT _ x (.inl rfl)),h.mem.upd u (fun x=>hT _ x (.inr (.inl rfl))) (fun x=>hT _ x (.inr (.inr rfl))),h.np,h.ng⟩
theorem dU.grew (h:dU w pp p g L S) (hb:Below w.heap.size w w'):dU w' pp p g L S:=h.upd (ak hb) (fun _ x=>x.elim)
theorem dU.drew (h:dU w pp p g L S):dU w.drew pp p g L S:=h.grew (Below.refl _ _).drew
theorem dU.set {S':PG} (h:dU w pp p g L S) (i:Nat) (v:Value) (e:(TS p S).setIfInBounds i v=TS p S'):dU (w.setCell ⟨pp,i,none⟩ v) pp p g L S':=by
 have b:=h.B.put i v;rw [e] at b;exact ⟨b,h.mem.upd (fK v) (fun e=>h.np e.symm) (fun e=>h.ng e.symm),h.np,h.ng⟩
theorem dU.lay {L':List Nat} (h:dU w pp p g L S) (m:bC w' p g L') (u:aH (fun b=>b=g) w w'):dU w' pp p g L' S:=⟨h.B.upd u h.ng,m,h.np,h.ng⟩
theorem dU.free (h:dU w pp p g L S):PL w p g pp 6 ⟨L,S.F.headD 0,(S.F.length:Int)⟩:=⟨h.mem,⟨_,_,h.B,rfl,rfl⟩,h.np,h.ng⟩
theorem dU.loc (h:dU w pp p g L S):PL w p g pp 8 ⟨L,S.G.headD 0,(S.G.length:Int)⟩:=⟨h.mem,⟨_,_,h.B,rfl,rfl⟩,h.np,h.ng⟩
theorem dU.post (h:dU w pp p g L S):CC w pp 10 S.cw (S.ct%18446744073709551616) (wrap64 (S.ca:Int)):=⟨_,_,h.B,rfl,rfl,rfl⟩
theorem dU.GQ {Z:Nat→Prop} {s:LS} {F:List Nat} (h:dU w pp p g L S) (k:PL w' p g pp 6 s) (W:dA Z (qZ pp 6) w w') (hz: ¬Z pp) (e1:s.h=F.headD 0) (e2:s.n=(F.length:Int)):dU w' pp p g s.L {S with F:=F}:=by
 have b:=h.B.ofList W hz k.G_;rw [e1,e2] at b;exact ⟨b,k.mem,h.np,h.ng⟩
theorem dU.YZ {Z:Nat→Prop} {s:LS} {G:List Nat} (h:dU w pp p g L S) (k:PL w' p g pp 8 s) (W:dA Z (qZ pp 8) w w') (hz: ¬Z pp) (e1:s.h=G.headD 0) (e2:s.n=(G.length:Int)):dU w' pp p g s.L {S with G:=G}:=by
 have b:=h.B.ofList W hz k.G_;rw [e1,e2] at b;exact ⟨b,k.mem,h.np,h.ng⟩
theorem dU.BQ {x t a:Nat} {n:Int} (h:dU w pp p g L S) (k:CC w' pp 10 x (t%18446744073709551616) n) (W:dA (fun _=>False) (zG pp 10) w w') (e:n=wrap64 (a:Int)):dU w' pp p g L {S with cw:=x,ct:=t,ca:=a}:=by
 have b:=h.B.BQ W id k;rw [e] at b;exact ⟨b,h.mem.upd W.upd (fun x=>by rcases x with x|⟨i,x,_⟩;exact x.elim;exact h.np x.symm) (fun x=>by rcases x with x|⟨i,x,_⟩;exact x.elim;exact h.ng x.symm),h.np,h.ng⟩
end
theorem Oh (t:Nat):xB (t%18446744073709551616)=(t+1)%18446744073709551616:=by unfold xB;omega
theorem NA (a:Nat):wrap64 (wrap64 (a:Int)+1)=wrap64 ((a+1:Nat):Int):=by
 unfold wrap64;omega
theorem Vv {w w':World} {pp p g o:Nat} (W:dA (fun b=>b=g) (qZ pp o) w w'):aH (OO pp p g) w w':=W.upd.mono fun b hb=>by
 rcases hb with hb|⟨i,hb,_⟩
 · exact .inr (.inr hb)
 · exact .inl hb
theorem Wj {w w':World} {pp p g o:Nat} (W:dA (fun _=>False) (qZ pp o) w w'):aH (OO pp p g) w w':=W.upd.mono fun b hb=>by
 rcases hb with hb|⟨i,hb,_⟩
 · exact hb.elim
 · exact .inl hb
theorem Nz {w w':World} {pp p g o:Nat} (W:dA (fun _=>False) (zG pp o) w w'):aH (OO pp p g) w w':=W.upd.mono fun b hb=>by
 rcases hb with hb|⟨i,hb,_⟩
 · exact hb.elim
 · exact .inl hb
theorem uQ (w:World) (f s:Nat) (n:Int):Calls Tryz.prog 68 #[.agg #[.int .u64 (f:Int), .int .u64 (s:Int), .int .i64 n]] w fun e w'=>e= .returned (iW f s n)∧Below w.heap.size w w':=by
 go_enter Tryz.func68,Tryz.ntmps68
 go_wp2;refine bodyPost_ret (v:=iW f s n) ?_ rfl ⟨rfl, ?_⟩
 · simp [results,Tryz.results68,go_sem,iW]
 · exact ((Below.refl _ w).alloc (Nat.le_refl _) _).alloc (by simp) _
section
variable {w:World} {pp p g:Nat} {L:List Nat} {S:PG}
theorem BL (h:dU w pp p g L S):Calls Tryz.prog 158 #[.pointer (some ⟨pp,0,none⟩)] w fun e w'=>e= .returned (.int .i64 (S.used:Int))∧Below w.heap.size w w':=by
 have c5:=h.c5;clear h;go_enter Tryz.func158,Tryz.ntmps158
 go_wp2;go_ret;exact ⟨rfl,Below.refl _ _⟩
theorem TR (h:dU w pp p g L S):Calls Tryz.prog 34 #[.pointer (some ⟨pp,0,none⟩)] w fun e w'=>e= .returned (.int .i64 (S.made:Int))∧Below w.heap.size w w':=by
 have c4:=h.c4;clear h;go_enter Tryz.func34,Tryz.ntmps34
 go_wp2;go_ret;exact ⟨rfl,Below.refl _ _⟩
end
theorem GK (w:World) {pp p g:Nat} {L:List Nat} {S:PG} (h:dU w pp p g L S):Calls Tryz.prog 32 #[.pointer (some ⟨pp,0,none⟩)] w fun e w'=>e= .returned (iW S.f S.s (S.n:Int))∧Below w.heap.size w w':=by
 have c0:=h.c0;have c1:=h.c1;have c2:=h.c2;have H:=Lib.hid (fun w=>uQ w S.f S.s (S.n:Int));have hlt:=h.lt;clear h;unfold iW at H;go_enter Tryz.func32,Tryz.ntmps32
 go_wp2_with fail
 generalize hW:w.alloc (.cells #[.int .u64 0, .int .u64 0, .int .i64 0] 96)=W
 have BW:=Lib.hid (show Below w.heap.size w W from hW▸(Below.refl _ w).alloc (Nat.le_refl _) _);have NW:=Lib.hid (show aV W w.heap.size 96 _ from hW▸aV.new w 96 _);obtain ⟨bb,hbb⟩: ∃bb,w.heap.size=bb:=⟨_,rfl⟩;rw [hbb] at NW;clear hW;refine (H.out _).mono ?_;rintro e w1 ⟨rfl,hb⟩;have B1:=Lib.hid (ah BW.out BW.out.size hb);have n1:=NW.out.grew hb;have d0:=n1.cell 0;have d1:=n1.cell 1;have d2:=n1.cell 2;have f0:=n1.frozen 0;have f1:=n1.frozen 1;have f2:=n1.frozen 2;have N1:=Lib.hid n1;clear hb n1;go_wp2;have n2:=((N1.out.put 0 (.int .u64 (S.f:Int))).put 1 (.int .u64 (S.s:Int))).put 2 (.int .i64 (S.n:Int));have b2:=((B1.out.setCell (p:=⟨bb,0,none⟩) (Nat.le_of_eq hbb) (.int .u64 (S.f:Int))).setCell (p:=⟨bb,1,none⟩) (Nat.le_of_eq hbb) (.int .u64 (S.s:Int))).setCell (p:=⟨bb,2,none⟩) (Nat.le_of_eq hbb) (.int .i64 (S.n:Int));generalize ((w1.setCell ⟨bb,0,none⟩ (.int .u64 (S.f:Int))).setCell ⟨bb,1,none⟩ (.int .u64 (S.s:Int))).setCell ⟨bb,2,none⟩ (.int .i64 (S.n:Int))=W5 at n2 b2⊢
 have e0:W5.cell? ⟨bb,0,none⟩=some (.int .u64 (S.f:Int)):=n2.cell 0;have e1:W5.cell? ⟨bb,1,none⟩=some (.int .u64 (S.s:Int)):=n2.cell 1;have e2:W5.cell? ⟨bb,2,none⟩=some (.int .i64 (S.n:Int)):=n2.cell 2;refine bodyPost_ret (v:=iW S.f S.s (S.n:Int)) ?_ rfl ⟨rfl,b2⟩;simp [results,Tryz.results32,go_sem,iW,e0,e1,e2]
theorem Po (w:World) {pp p g a:Nat} {L:List Nat} {S:PG} (h:dU w pp p g L S) (hg:aJ L S) (ha:bM a):Calls Tryz.prog 132 #[.pointer (some ⟨pp,0,none⟩), .int .u64 (a:Int)] w fun e w'=>e= .returned (.int .i64 (dN S a))∧Below w.heap.size w w':=by
 have c0:=h.c0;have c1:=h.c1;have c2:=h.c2;have H:=Lib.hid (fun w=>uQ w S.f S.s (S.n:Int));have hz:=hg.sizes;have hn2:=hg.n2;have HI:=Lib.hid (fun w=>y8 w S.f S.s (S.n:Int) a (by omega) (by omega) ⟨by omega,by omega⟩ ha);have h4:=fun (w':World) (hb:Below w.heap.size w w')=>(h.grew hb).c4;have H4:=Lib.hid h4;obtain ⟨E,hE⟩: ∃E,dN S a=E:=⟨_,rfl⟩;rw [hE];unfold dN at hE;obtain ⟨i,hi⟩: ∃i,gB S.f S.s (S.n:Int) a=i:=⟨_,rfl⟩;obtain ⟨x,hx⟩: ∃x,fF S.f S.s (S.n:Int) a=x:=⟨_,rfl⟩;rw [hi,hx] at hE HI;have HE:=Lib.hid hE;clear h hg hz hn2 hE hi hx h4 ha;unfold iW at H HI;by_cases hx0:x=0
 · subst hx0
   have e1:=HE.out;rw [if_pos rfl] at e1;have HE:=Lib.hid e1;clear e1;by_cases hi:i<S.made
   · have e1:=HE.out
     rw [if_pos hi] at e1;subst e1;have t1:decide ((S.made:Int)≤(i:Int))=false:=decide_eq_false (by omega);have t2:decide (S.made≤i)=false:=decide_eq_false (by omega);go_enter Tryz.func132,Tryz.ntmps132
     go_wp2_with fail
     refine (H.out _).mono ?_;rintro e w1 ⟨rfl,hb⟩;have B1:=Lib.hid hb;clear hb;go_wp2_with fail
     refine (HI.out _).mono ?_;rintro e w2 ⟨rfl,hb⟩;have B2:=Lib.hid (ah B1.out B1.out.size hb);have c4:=H4.out _ B2.out;clear hb;go_wp2;go_ret;exact ⟨rfl,B2.out⟩
   · have e1:=HE.out
     rw [if_neg hi] at e1;subst e1;have t1:decide ((S.made:Int)≤(i:Int))=true:=decide_eq_true (by omega);have t2:decide (S.made≤i)=true:=decide_eq_true (by omega);go_enter Tryz.func132,Tryz.ntmps132
     go_wp2_with fail
     refine (H.out _).mono ?_;rintro e w1 ⟨rfl,hb⟩;have B1:=Lib.hid hb;clear hb;go_wp2_with fail
     refine (HI.out _).mono ?_;rintro e w2 ⟨rfl,hb⟩;have B2:=Lib.hid (ah B1.out B1.out.size hb);have c4:=H4.out _ B2.out;clear hb;go_wp2;go_ret;exact ⟨rfl,B2.out⟩
 · have e1:=HE.out
   rw [if_neg hx0] at e1;subst e1;have t1:(x !=0)=true:=by rw [bne_iff_ne];exact hx0
   go_enter Tryz.func132,Tryz.ntmps132
   go_wp2_with fail
   refine (H.out _).mono ?_;rintro e w1 ⟨rfl,hb⟩;have B1:=Lib.hid hb;clear hb;go_wp2_with fail
   refine (HI.out _).mono ?_;rintro e w2 ⟨rfl,hb⟩;have B2:=Lib.hid (ah B1.out B1.out.size hb);clear hb;go_wp2;go_ret;exact ⟨rfl,B2.out⟩
end Go.Proofs.YtpibbcnkgdmcbaaGreatDoor
namespace Go.Proofs.YtpibbcnkgdmcbaaGreatDoor
open Go.RowKit aC aF aG
theorem YR (w:World) {pp p g:Nat} {L:List Nat} {S:PG} (h:dU w pp p g L S) {a:Nat} (hL:L.length≤1048576) (h0:a≠0) (h8:a+8≤L.length) (hh:S.F.headD 0≤1048576) (hn:S.F.length≤1024) {W:World} (e:W=(w.alloc (.cells #[.int .u64 (a:Int)] 22)).drew) {b:Nat} (hb:b=w.heap.size):
 Calls Tryz.prog 156 #[.pointer (some ⟨pp,6,none⟩), .pointer (some ⟨p,0,none⟩), .slice (some ⟨b,0,none⟩) 1 1] W fun e w'=>e= .returned (.int .i64 0)∧dU w' pp p g (ay.iC L a (S.F.headD 0)) {S with F:=a::S.F}∧aH (OO pp p g) w w':=by
 subst e hb;have hq:Seq Elem.jl (w.alloc (.cells #[.int .u64 (a:Int)] 22)).drew (.slice (some ⟨w.heap.size,0,none⟩) 1 1) [a]:=(Seq.new (E:=Elem.jl) w _ [a] 1).upd (ak (Below.refl _ _).drew) (fun _ _=>id);have hlt:=h.lt;have hg:=h.mem.row.lt;have b0:Below w.heap.size w (w.alloc (.cells #[.int .u64 (a:Int)] 22)).drew:=((Below.refl _ w).alloc (Nat.le_refl _) _).drew;have h1:=h.grew b0;refine (DT _ h1.free hq (fun _ b hb=> ?_) (by intro x hx;rw [List.mem_singleton.1 hx];omega) (by decide) (by show S.F.headD 0≤_;omega) ⟨by show (0:Int)≤(S.F.length:Int);omega,by show (S.F.length:Int)≤_;omega⟩).mono ?_
 · have hbe:b=w.heap.size:=by cases hb;rfl
   exact ⟨by omega,by omega⟩
 · rintro e w' ⟨rfl,k1,k2⟩
   have hp:dB ⟨L,S.F.headD 0,(S.F.length:Int)⟩ a=(⟨ay.iC L a (S.F.headD 0),a,(S.F.length:Int)+1⟩,0):=by unfold dB;rw [if_neg h0,if_pos h8]
   rw [lT,hp] at k1;refine ⟨by rw [lT,hp],h1.GQ k1 k2 h1.ng rfl (by simp),((ak b0).mono (fun _ x=>x.elim)).trans (Vv k2)⟩
theorem YQ (w:World) {pp p g:Nat} {L:List Nat} {S:PG} (h:dU w pp p g L S) {a:Nat} (hL:L.length≤1048576) (h0:a≠0) (h8:a+8≤L.length) (hh:S.G.headD 0≤1048576) (hn:S.G.length≤1024) {W:World} (e:W=(w.alloc (.cells #[.int .u64 (a:Int)] 22)).drew) {b:Nat} (hb:b=w.heap.size):
 Calls Tryz.prog 156 #[.pointer (some ⟨pp,8,none⟩), .pointer (some ⟨p,0,none⟩), .slice (some ⟨b,0,none⟩) 1 1] W fun e w'=>e= .returned (.int .i64 0)∧dU w' pp p g (ay.iC L a (S.G.headD 0)) {S with G:=a::S.G}∧aH (OO pp p g) w w':=by
 subst e hb;have hq:Seq Elem.jl (w.alloc (.cells #[.int .u64 (a:Int)] 22)).drew (.slice (some ⟨w.heap.size,0,none⟩) 1 1) [a]:=(Seq.new (E:=Elem.jl) w _ [a] 1).upd (ak (Below.refl _ _).drew) (fun _ _=>id);have hlt:=h.lt;have hg:=h.mem.row.lt;have b0:Below w.heap.size w (w.alloc (.cells #[.int .u64 (a:Int)] 22)).drew:=((Below.refl _ w).alloc (Nat.le_refl _) _).drew;have h1:=h.grew b0;refine (DT _ h1.loc hq (fun _ b hb=> ?_) (by intro x hx;rw [List.mem_singleton.1 hx];omega) (by decide) (by show S.G.headD 0≤_;omega) ⟨by show (0:Int)≤(S.G.length:Int);omega,by show (S.G.length:Int)≤_;omega⟩).mono ?_
 · have hbe:b=w.heap.size:=by cases hb;rfl
   exact ⟨by omega,by omega⟩
 · rintro e w' ⟨rfl,k1,k2⟩
   have hp:dB ⟨L,S.G.headD 0,(S.G.length:Int)⟩ a=(⟨ay.iC L a (S.G.headD 0),a,(S.G.length:Int)+1⟩,0):=by unfold dB;rw [if_neg h0,if_pos h8]
   rw [lT,hp] at k1;refine ⟨by rw [lT,hp],h1.YZ k1 k2 h1.ng rfl (by simp),((ak b0).mono (fun _ x=>x.elim)).trans (Vv k2)⟩
def MkR (w:World) (pp p g:Nat) (L:List Nat) (S:PG) (k:Nat) (i:Value) (wr:World):Prop:=
 ∃(r:Nat) (I:Int) (L':List Nat),r≤k∧I=(S.made:Int)+(k:Int)-1-(r:Int)∧i= .int .i64 I∧L'.length=L.length∧dU wr pp p g L' {S with F:=news S.f S.s (S.made+(k-r)) r}∧
  Chain L' ((news S.f S.s (S.made+(k-r)) r).headD 0) (news S.f S.s (S.made+(k-r)) r)∧Agree L L' (news S.f S.s S.made k)∧aH (OO pp p g) w wr
theorem TQ (w:World) {pp p g:Nat} {L:List Nat} {S:PG} (h:dU w pp p g L S) (hg:aJ L S) (hF:S.F= []) (hG:S.G= []):
 Calls Tryz.prog 170 #[.pointer (some ⟨pp,0,none⟩)] w fun e w'=>e= .returned (.int .i64 0)∧ ∃L',dU w' pp p g L' (aW S)∧aJ L' (aW S)∧Agree L L' (b_ S)∧aH (OO pp p g) w w':=by
 obtain ⟨er,en⟩:=fA hF hG;obtain ⟨k,hk⟩: ∃k,min 4 (S.n-S.made)=k:=⟨_,rfl⟩;rw [er,en,hk];have hmn:=hg.made;have hkn:S.made+k≤S.n:=by omega
 have hk4:k≤4:=by omega
 have hn2:=hg.n2;have c2:=h.c2;have c4:=h.c4;have hmin: ∀w,(Builtin.min_ #[3,3] 3 #[.int .i64 ((S.made:Int)+4), .int .i64 (S.n:Int)]).run Tryz.prog w= .ok (.int .i64 ((S.made+k:Nat):Int)) w:=fun w=>by
  rw [run_min_int2];have:(if (S.n:Int)<(S.made:Int)+4 then (S.n:Int) else (S.made:Int)+4)=((S.made+k:Nat):Int):=by split<;>omega
  rw [this]
 have I0:MkR w pp p g L S k (.int .i64 ((S.made:Int)+(k:Int)-1)) w.drew:=by
  refine ⟨0,(S.made:Int)+(k:Int)-1,L,Nat.zero_le _,by omega,rfl,rfl, ?_,rfl,Agree.refl _ _,(aH.refl _ w).drew⟩;have:=h.drew;have e:({S with F:=news S.f S.s (S.made+(k-0)) 0}:PG)=S:=by rw [Ai,←hF]
  rw [e];exact this
 have II:=Lib.hid I0;have HG:=Lib.hid hg;have H:=Lib.hid (fun w=>uQ w S.f S.s (S.n:Int));have HFG:=Lib.hid (And.intro hF hG);clear h hg I0 er en hF hG;go_enter Tryz.func170,Tryz.ntmps170
 go_wp2_with fail
 go_region
 go_wp2;go_loopw [4] (fun i wr=>MkR w pp p g L S k i wr) (fun i _=>(intOf i+1-S.made).toNat)
 case atStart=>exact II.out
 case round=>
  obtain ⟨r,I,L',hr,hI,rfl,hlen,hR,hc,ha,hu⟩:=hrel;have c0:=hR.c0;have c1:=hR.c1;have c2:=hR.c2;have c4:=hR.c4;by_cases hrk:r<k
  · have t1:decide ((S.made:Int)≤I)=true:=decide_eq_true (by omega)
    have i0:0≤I:=by omega
    have i1:I≤2000:=by omega
    have i2:(S.made:Int)≤I:=by omega
    obtain ⟨a,haa⟩: ∃a,a=S.f+(S.made+(k-(r+1)))*S.s:=⟨_,rfl⟩;have hm:=HG.out.may;have hz:=HG.out.sizes;obtain ⟨k1,k2,k3,k4,k5,k6⟩:=fB HG.out.f0 HG.out.s16 (by rw [hlen];exact HG.out.fit) (by rw [hlen];exact HG.out.big) hkn hrk haa hc;have hIn:I.toNat=S.made+(k-(r+1)):=by omega
    have hbN:lg S.f S.s (S.n:Int) I=a:=by unfold lg;rw [if_pos ⟨hm,i0,by omega⟩,hIn,haa]
    have hbE:kK S.f S.s (S.n:Int) I=0:=by unfold kK;rw [if_pos hm,if_pos ⟨i0,by omega⟩]
    have HB:=Lib.hid (fun w=>za w S.f S.s (S.n:Int) I (by omega) (by omega) ⟨by omega,by omega⟩ ⟨by omega,by omega⟩);rw [hbN,hbE] at HB;have hF0:a≠0:=by have:=HG.out.f0;omega
    have hF8:a+8≤L'.length:=by have:=k3.2.2.1;rwa [k4.1] at this
    have HH:(news S.f S.s (S.made+(k-r)) r).headD 0≤1048576:=hc.sD (by rw [hlen];exact HG.out.big);have HP:=Lib.hid (fun (w':World) (hb:Below wr.heap.size wr w')=>YR w' (hR.grew hb) (a:=a) (by rw [hlen];exact HG.out.big) hF0 hF8 HH (by show (news _ _ _ _).length≤_;rw [oH];omega) rfl rfl);have RR:=Lib.hid hR;have HC:=Lib.hid hc;have HA:=Lib.hid ha;have HU:=Lib.hid hu;have HI:=Lib.hid hI;have HK:=Lib.hid (And.intro k1 (And.intro k2 (And.intro k3 (And.intro k4 k5))));have hsw:wr.heap.size=wr.heap.size:=rfl;clear hR hc ha hu hI k1 k2 k3 k4 k5 hm hbN hbE hIn HH hF8 haa hz;unfold iW at H HB;go_wp2_with fail
    refine (H.out _).mono ?_;rintro e w1 ⟨rfl,hb⟩;have B1:=Lib.hid hb;clear hb;go_wp2_with fail
    refine (HB.out _).mono ?_;rintro e w2 ⟨rfl,hb⟩;have B2:=Lib.hid (ah B1.out B1.out.size hb);have c3:=(RR.out.grew B2.out).c3;clear hb c0 c1 c2 c4;go_wp2_with fail
    go_region_held3 (fun w'=>w'.cell? ⟨pp,3,none⟩=some (.pointer (some ⟨p,0,none⟩))) (first|go_keep|exact c3)
     (first
      |(go_at_call 156;(with_reducible refine (HP.out _ B2.out).mono ?_);rintro e w3 ⟨rfl,hr3,hu3⟩;have R3:=Lib.hid hr3;have U3:=Lib.hid hu3;have c3:w3.cell? ⟨pp,3,none⟩=some (.pointer (some ⟨p,0,none⟩)):=hr3.c3;clear hr3 hu3))
    have wI:IntKind.i64.wrap (I-1)=I-1:=IntWalk.i64_in _ ⟨by omega,by omega⟩;go_wp2;go_roundw
    case rel=>
     obtain ⟨k1,k2,k3,k4,k5⟩:=HK.out;have hIr:=HI.out;refine ⟨r+1,I-1,ay.iC L' a ((news S.f S.s (S.made+(k-r)) r).headD 0),by omega,by omega,rfl,k4.1.trans hlen, ?_, ?_,(HA.out.trans k4).mono ?_,HU.out.trans (((ak B2.out).mono (fun _ x=>x.elim)).trans U3.out)⟩
     · rw [k2];exact R3.out
     · rw [k2];exact k3
     · intro x hx
       rcases List.mem_append.1 hx with hx|hx
       · exact hx
       · rw [List.mem_singleton.1 hx];exact k5
    case measure=>simp [intOf];omega
  · obtain rfl:r=k:=by omega
    have t1:decide ((S.made:Int)≤I)=false:=decide_eq_false (by omega);have f4:=hR.fz 4;have RR:=Lib.hid hR;have HC:=Lib.hid hc;have HA:=Lib.hid ha;have HU:=Lib.hid hu;have HI:=Lib.hid hI;have HL:=Lib.hid hlen;clear hR hc ha hu hI hlen;go_wp2;go_ret;refine ⟨rfl,L', ?_, ?_,HA.out,HU.out.trans ((fK _).mono fun b hb=> .inl hb)⟩
    · have h2:=RR.out.set (S':={S with F:=news S.f S.s (S.made+(r-r)) r,made:=S.made+r}) 4 (.int .i64 ((S.made+r:Nat):Int)) rfl
      rw [Nat.sub_self,Nat.add_zero] at h2;have e:((S.made+r:Nat):Int)=(S.made:Int)+(r:Int):=by omega
      rw [e] at h2;exact h2
    · have h3:=HC.out
      rw [Nat.sub_self,Nat.add_zero] at h3;exact HG.out.more HFG.out.2 hkn HL.out h3
end Go.Proofs.YtpibbcnkgdmcbaaGreatDoor
namespace Go.Proofs.YtpibbcnkgdmcbaaGreatDoor
open Go.RowKit aC aF aG
theorem u6 {S:PG} (h:(aW S).F= []):aW S=S:=by
 by_cases h1:S.F= []
 · by_cases h2:S.G= []
   · have e:=(fA h1 h2).1
     rw [e] at h;have hn:(news S.f S.s S.made (min 4 (S.n-S.made))).length=0:=by
      have h':news S.f S.s S.made (min 4 (S.n-S.made))= []:=h;rw [h'];rfl
     rw [oH] at hn;rw [e,hn,Ai,Nat.add_zero,←h1]
   · rw [(iq h1 h2).1] at h;exact absurd h h2
 · rw [(gN h1).1] at h;exact absurd h h1
theorem Lv (w:World) {pp p g:Nat} {L:List Nat} {S:PG} (h:dU w pp p g L S) (hg:aJ L S) (hl:S.F.length≤1024∧S.G.length≤1024):
 Calls Tryz.prog 147 #[.pointer (some ⟨pp,0,none⟩)] w fun e w'=>e= .returned (.int .i64 (if (aW S).F= [] then 4 else 0))∧ ∃L',dU w' pp p g L' (aW S)∧aJ L' (aW S)∧Agree L L' (b_ S)∧aH (OO pp p g) w w':=by
 have c7:=h.c7;have HG:=Lib.hid hg;by_cases h1:S.F= []
 · have f6:=h.fz 6;have f7:=h.fz 7;have f8:=h.fz 8;have f9:=h.fz 9
   have c8:=h.c8;have c9:=h.c9;replace c7:w.cell? ⟨pp,7,none⟩=some (.int .i64 0):=by rw [h1] at c7;exact c7
   by_cases h2:S.G= []
   · replace c8:w.cell? ⟨pp,8,none⟩=some (.int .u64 0):=by rw [h2] at c8;exact c8
     replace c9:w.cell? ⟨pp,9,none⟩=some (.int .i64 0):=by rw [h2] at c9;exact c9
     have c6:w.cell? ⟨pp,6,none⟩=some (.int .u64 0):=by have:=h.c6;rw [h1] at this;exact this
     have eF:S.F.headD 0=0:=by rw [h1];rfl
     have eG:S.G.headD 0=0:=by rw [h2];rfl
     have eL:S.F.length=0:=by rw [h1];rfl
     have eM:S.G.length=0:=by rw [h2];rfl
     have hs:dU ((((w.setCell ⟨pp,6,none⟩ (.int .u64 0)).setCell ⟨pp,7,none⟩ (.int .i64 0)).setCell ⟨pp,8,none⟩ (.int .u64 0)).setCell ⟨pp,9,none⟩ (.int .i64 0)) pp p g L S:=by
      refine dU.set (S:=S) (dU.set (S:=S) (dU.set (S:=S) (dU.set (S:=S) h 6 _ ?_) 7 _ ?_) 8 _ ?_) 9 _ ?_
      · unfold TS;rw [eF];rfl
      · unfold TS;rw [eL];rfl
      · unfold TS;rw [eG];rfl
      · unfold TS;rw [eM];rfl
     have hu:aH (OO pp p g) w ((((w.setCell ⟨pp,6,none⟩ (.int .u64 0)).setCell ⟨pp,7,none⟩ (.int .i64 0)).setCell ⟨pp,8,none⟩ (.int .u64 0)).setCell ⟨pp,9,none⟩ (.int .i64 0)):=
      ((((aH.refl _ w).setCell (.inl (.inl rfl)) _).setCell (.inl (.inl rfl)) _).setCell (.inl (.inl rfl)) _).setCell (.inl (.inl rfl)) _
     have HS:=Lib.hid hs;have HU:=Lib.hid hu;have HM:=Lib.hid (fun (w':World) (k:dU w' pp p g L S)=>TQ w' k hg h1 h2);clear h hg h1 h2 eF eG eL eM hs hu;by_cases hr:(aW S).F= []
     · have hr7:((aW S).F.length:Int)=0:=by rw [hr];rfl
       rw [if_pos hr];clear hr;go_enter Tryz.func147,Tryz.ntmps147
       go_wp2_with fail
       refine (HM.out _ HS.out).mono ?_;rintro e w1 ⟨rfl,L',k1,k2,k3,k4⟩;have c7:=k1.c7;rw [hr7] at c7;have K1:=Lib.hid k1;have K2:=Lib.hid k2;have K3:=Lib.hid k3;have K4:=Lib.hid k4;clear k1 k2 k3 k4 hr7;go_wp2;go_ret;exact ⟨rfl,L',K1.out,K2.out,K3.out,HU.out.trans K4.out⟩
     · have hr7:(((aW S).F.length:Int)==0)=false:=by
        rw [beq_eq_false_iff_ne];intro x;exact hr (List.eq_nil_of_length_eq_zero (by omega))
       rw [if_neg hr];clear hr;obtain ⟨z,hz⟩: ∃z,(aW S).F.length=z:=⟨_,rfl⟩;rw [hz] at hr7;have HZ:=Lib.hid hz;clear hz;go_enter Tryz.func147,Tryz.ntmps147
       go_wp2_with fail
       refine (HM.out _ HS.out).mono ?_;rintro e w1 ⟨rfl,L',k1,k2,k3,k4⟩;have c7:=k1.c7;rw [HZ.out] at c7;have K1:=Lib.hid k1;have K2:=Lib.hid k2;have K3:=Lib.hid k3;have K4:=Lib.hid k4;clear k1 k2 k3 k4;go_wp2;go_ret;exact ⟨rfl,L',K1.out,K2.out,K3.out,HU.out.trans K4.out⟩
   · have c6:w.cell? ⟨pp,6,none⟩=some (.int .u64 0):=by have:=h.c6;rw [h1] at this;exact this
     obtain ⟨e1,e2⟩:=iq h1 h2;rw [e1,e2];have e3:(if ({S with F:=S.G,G:= []}:PG).F= [] then (4:Int) else 0)=0:=if_neg h2;rw [e3];have hn:((S.G.length:Int)==0)=false:=by
      rw [beq_eq_false_iff_ne];intro x;exact h2 (List.eq_nil_of_length_eq_zero (by omega))
     obtain ⟨a,ha⟩: ∃a,S.G.headD 0=a:=⟨_,rfl⟩;obtain ⟨m,hm⟩: ∃m,S.G.length=m:=⟨_,rfl⟩;have hs:dU ((((w.setCell ⟨pp,6,none⟩ (.int .u64 (a:Int))).setCell ⟨pp,7,none⟩ (.int .i64 (m:Int))).setCell ⟨pp,8,none⟩ (.int .u64 0)).setCell ⟨pp,9,none⟩ (.int .i64 0)) pp p g L {S with F:=S.G,G:= []}:=by
      subst ha hm;have b:=(((h.B.put 6 (.int .u64 ((S.G.headD 0:Nat):Int))).put 7 (.int .i64 (S.G.length:Int))).put 8 (.int .u64 0)).put 9 (.int .i64 0);exact ⟨b,(((h.mem.upd (fK _) (fun e=>h.np e.symm) (fun e=>h.ng e.symm)).upd (fK _) (fun e=>h.np e.symm) (fun e=>h.ng e.symm)).upd (fK _) (fun e=>h.np e.symm) (fun e=>h.ng e.symm)).upd (fK _) (fun e=>h.np e.symm) (fun e=>h.ng e.symm),h.np,h.ng⟩
     have hu:aH (OO pp p g) w ((((w.setCell ⟨pp,6,none⟩ (.int .u64 (a:Int))).setCell ⟨pp,7,none⟩ (.int .i64 (m:Int))).setCell ⟨pp,8,none⟩ (.int .u64 0)).setCell ⟨pp,9,none⟩ (.int .i64 0)):=
      ((((aH.refl _ w).setCell (.inl (.inl rfl)) _).setCell (.inl (.inl rfl)) _).setCell (.inl (.inl rfl)) _).setCell (.inl (.inl rfl)) _
     rw [ha] at c8;rw [hm] at c9 hn;have HS:=Lib.hid hs;have HU:=Lib.hid hu;have HL:=Lib.hid (hg.SH h1);clear h hg h1 h2 hs hu e1 e2 ha hm e3 hl;go_enter Tryz.func147,Tryz.ntmps147
     go_wp2;go_ret;exact ⟨rfl,L,HS.out,HL.out,Agree.refl _ _,HU.out⟩
 · obtain ⟨e1,e2⟩:=gN h1
   rw [e1,e2,if_neg h1];have hn:((S.F.length:Int)==0)=false:=by
    rw [beq_eq_false_iff_ne];intro x;exact h1 (List.eq_nil_of_length_eq_zero (by omega))
   obtain ⟨m,hm⟩: ∃m,S.F.length=m:=⟨_,rfl⟩;rw [hm] at c7 hn;have HS:=Lib.hid h;clear h hg h1 e1 e2 hm hl;go_enter Tryz.func147,Tryz.ntmps147
   go_wp2;go_ret;exact ⟨rfl,L,HS.out,HG.out,Agree.refl _ _,aH.refl _ _⟩
theorem D8 (w:World) {pp p g:Nat} {L:List Nat} {S:PG} (h:dU w pp p g L S) (hg:aJ L S) (ha:S.made=S.F.length+S.G.length+S.used):
 Calls Tryz.prog 114 #[.pointer (some ⟨pp,0,none⟩)] w fun e w'=>e= .returned (.tuple #[.int .u64 ((aP S).2.1:Int), .int .i64 (aP S).2.2])∧ ∃L',dU w' pp p g L' (aP S).1∧aJ L' (aP S).1∧(aP S).1.made=(aP S).1.F.length+(aP S).1.G.length+(aP S).1.used∧Agree L L' (b_ S)∧aH (OO pp p g) w w':=by
 have hm:=hg.made;have hn2:=hg.n2;have HR:=Lib.hid (Lv w h hg ⟨by omega,by omega⟩);have hra:=Gx ha;have hrn:(aW S).n=S.n∧(aW S).made≤S.n:=by have:=kP hg;exact ⟨this.2.2.2.2,this.2.1⟩
 have Zh:(aW S).used=S.used:=by unfold aW;split<;>first|rfl|(split<;>rfl)
 cases hF:(aW S).F with
 |nil=>
  rw [jw hF];rw [u6 hF] at HR;rw [u6 hF] at hF;rw [if_pos hF] at HR;have HA:=Lib.hid ha;clear h hg ha hra hrn Zh hF hm hn2;go_enter Tryz.func114,Tryz.ntmps114
  go_wp2_with fail
  refine HR.out.mono ?_;rintro e w1 ⟨rfl,L',k1,k2,k3,k4⟩;have K1:=Lib.hid k1;have K2:=Lib.hid k2;have K3:=Lib.hid k3;have K4:=Lib.hid k4;clear k1 k2 k3 k4;go_wp2
  go_ret2
  exact ⟨rfl,L',K1.out,K2.out,HA.out,K3.out,K4.out⟩
 |cons x t=>
  rw [iN hF];rw [if_neg (by rw [hF];exact List.cons_ne_nil _ _)] at HR;obtain ⟨T,hT⟩: ∃T,aW S=T:=⟨_,rfl⟩;rw [hT] at HR hF hra hrn Zh⊢;rw [hF] at hra;simp only [List.length_cons] at hra;have hub:S.used≤1024:=by omega
  have htl:t.length≤1024:=by omega
  rw [←Zh] at hub hra;have HF:=Lib.hid hF;have HRA:=Lib.hid hra;rw [←Zh];clear h hg ha hm hn2 hF hra hT hrn Zh;go_enter Tryz.func114,Tryz.ntmps114
  go_wp2_with fail
  refine HR.out.mono ?_;rintro e w1 ⟨rfl,L',k1,k2,k3,k4⟩;have c3:=k1.c3;have Ur:=k2.pop (T.used+1) HF.out;have hx:T.F.headD 0=x:=by rw [HF.out];rfl
  have hp:xU ⟨L',T.F.headD 0,(T.F.length:Int)⟩=(⟨L',t.headD 0,(t.length:Int)⟩,x,0):=by
   have hl:(T.F.length:Int)=(t.length:Int)+1:=by rw [HF.out];simp
   unfold xU;rw [hl,hx];simp only [];rw [if_neg (by omega),if_pos Ur.2.2,Ur.2.1];simp
  have hh:=k2.Zx;have HP:=Lib.hid (fun (w':World) (hb:Below w1.heap.size w1 w')=>TN w' (k1.grew hb).free (by show T.F.headD 0≤_;omega) ⟨by show (0:Int)≤(T.F.length:Int);omega,by show (T.F.length:Int)≤_;rw [HF.out];simp only [List.length_cons];omega⟩);rw [hp] at HP;have HOK:=Lib.hid Ur.1;have K1:=Lib.hid k1;have K2:=Lib.hid k2;have K3:=Lib.hid k3;have K4:=Lib.hid k4;clear k1 k2 k3 k4 Ur hp hx hh;go_wp2_with fail
  go_region_held3 (fun w'=>w'.cell? ⟨pp,3,none⟩=some (.pointer (some ⟨p,0,none⟩))) (first|go_keep|exact c3)
   (first
    |(go_at_call 148;(with_reducible refine (HP.out _ (Below.refl _ _).drew).mono ?_);rintro e w2 ⟨rfl,j1,j2⟩;have J1:=Lib.hid j1;have J2:=Lib.hid j2;have c3:w2.cell? ⟨pp,3,none⟩=some (.pointer (some ⟨p,0,none⟩)):=((K1.out.grew (Below.refl _ _).drew).GQ (F:=t) j1 j2 id rfl rfl).c3;clear j1 j2))
  have r2:=(K1.out.grew (Below.refl _ _).drew).GQ (F:=t) J1.out J2.out id rfl rfl;have c5:=r2.c5;have f5:=r2.fz 5;have wu:IntKind.i64.wrap ((T.used:Int)+1)=(T.used:Int)+1:=IntWalk.i64_in _ ⟨by omega,by omega⟩;have U2:=Lib.hid ((aH.refl (OO pp p g) w1).drew.trans (Wj (p:=p) (g:=g) J2.out));have R2:=Lib.hid (r2.set (S':={{T with F:=t} with used:=T.used+1}) 5 (.int .i64 ((T.used+1:Nat):Int)) rfl);clear r2 c3;go_wp2
  go_ret2
  have e:(((T.used+1:Nat):Int))=(T.used:Int)+1:=by omega
  have r3:=R2.out;rw [e] at r3;refine ⟨rfl,L',r3,HOK.out, ?_,K3.out,(K4.out.trans U2.out).trans ((fK _).mono fun b hb=> .inl hb)⟩;have:=HRA.out;show T.made=t.length+T.G.length+(T.used+1);omega
end Go.Proofs.YtpibbcnkgdmcbaaGreatDoor
namespace Go.Proofs.YtpibbcnkgdmcbaaGreatDoor
open Go.RowKit aC aF aG
def FU (S:PG):Prop:=S.made=S.F.length+S.G.length+S.used
theorem uK: ∀(l m:List Nat) (S:PG),(dI S l).2=0→dI S (l++m)=dI (dI S l).1 m
 | [],m,S,_=>rfl
 |a::t,m,S,h=>by
  have h':(if (bg S a).2=0 then dI (bg S a).1 t else bg S a).2=0:=h;show (if (bg S a).2=0 then dI (bg S a).1 (t++m) else bg S a)=dI (if (bg S a).2=0 then dI (bg S a).1 t else bg S a).1 m;by_cases h1:(bg S a).2=0
  · rw [if_pos h1] at h'
    rw [if_pos h1,if_pos h1];exact uK t m _ h'
  · rw [if_neg h1] at h';exact absurd h' h1
theorem AO (S:PG) (a:Nat):dI S [a]=bg S a:=by
 show (if (bg S a).2=0 then ((bg S a).1,0) else bg S a)=bg S a;split
 · rename_i h;rw [←h]
 · rfl
theorem Ik (S:PG) (a:Nat) (m:List Nat) (h:(bg S a).2≠0):dI S (a::m)=bg S a:=if_neg h
theorem Ij {S:PG} {l:List Nat} {j a:Nat} (ha:l[j]? =some a) (h:(dI S (l.take j)).2=0):dI S (l.take (j+1))=bg (dI S (l.take j)).1 a:=by
 rw [List.take_add_one,ha];show dI S (l.take j++ [a])=_;rw [uK _ _ _ h,AO]
theorem Il {S:PG} {l:List Nat} {j a:Nat} (ha:l[j]? =some a) (h:(dI S (l.take j)).2=0) (h2:(bg (dI S (l.take j)).1 a).2≠0):dI S l=bg (dI S (l.take j)).1 a:=by
 obtain ⟨hl,rfl⟩:=List.getElem?_eq_some_iff.1 ha;have e:l=l.take j++l[j]::l.drop (j+1):=by rw [←List.drop_eq_getElem_cons hl,List.take_append_drop]
 rw [show dI S l=dI S (l.take j++l[j]::l.drop (j+1)) from congrArg _ e,uK _ _ _ h,Ik _ _ _ h2]
def V4 (w:World) (pp p g k:Nat) (L:List Nat) (S:PG) (l:List Nat) (i:Value) (wr:World):Prop:=
 ∃(j:Nat) (L':List Nat),j≤k∧i= .int .i64 (j:Int)∧(dI S (l.take j)).2=0∧dU wr pp p g L' (dI S (l.take j)).1∧aJ L' (dI S (l.take j)).1∧FU (dI S (l.take j)).1∧Agree L L' l∧aH (OO pp p g) w wr
theorem JJ (w:World) {pp p g:Nat} {L:List Nat} {S:PG} (h:dU w pp p g L S) (hg:aJ L S) (hadd:FU S) {a:Option Addr} {k cap:Nat} {l:List Nat} (hq:Seq Elem.jl w (.slice a k cap) l) (hne: ∀b,In (.slice a k cap) b→ ¬OO pp p g b) (hk:k≤2000) (hx: ∀x∈l,bM x) (hnd: ∀j x,l[j]? =some x→(dI S (l.take j)).2=0→dN (dI S (l.take j)).1 x=0→x∉(dI S (l.take j)).1.F∧x∉(dI S (l.take j)).1.G):
 Calls Tryz.prog 129 #[.pointer (some ⟨pp,0,none⟩), .slice a k cap] w fun e w'=>e= .returned (.int .i64 (dI S l).2)∧ ∃L',dU w' pp p g L' (dI S l).1∧aJ L' (dI S l).1∧FU (dI S l).1∧Agree L L' l∧aH (OO pp p g) w w':=by
 have hlen:=hq.len;have Q:=Lib.hid hq;have NE:=Lib.hid hne;have HX:=Lib.hid hx;have HK:=Lib.hid hlen;have HN:=Lib.hid hnd;have I0:V4 w pp p g k L S l (.int .i64 0) w:=⟨0,L,Nat.zero_le _,rfl,rfl,h,hg,hadd,Agree.refl _ _,aH.refl _ _⟩;have II:=Lib.hid I0;obtain ⟨E,hE⟩: ∃E,dI S l=E:=⟨_,rfl⟩;rw [hE];have HE:=Lib.hid hE;clear hq hne hx hlen hnd h hg hadd I0 hE;go_enter Tryz.func129,Tryz.ntmps129
 go_wp2;go_loopw [13] (fun i wr=>V4 w pp p g k L S l i wr) (fun i _=>k-(intOf i).toNat)
 case atStart=>exact II.out
 case round=>
  obtain ⟨j,L',hj,rfl,hz,hr,hgd,had,hag,hu⟩:=hrel;by_cases hjk:j<k
  · obtain ⟨x,hx⟩: ∃x,l[j]? =some x:=⟨l[j]'(by rw [←HK.out];exact hjk),List.getElem?_eq_getElem _⟩
    have hxb:bM x:=HX.out x (List.mem_of_getElem? hx);have yM: ∃b off,a=some ⟨b,off,none⟩∧wr.cell? ⟨b,off+j,none⟩=some (.int .u64 (x:Int)):=by
     obtain ⟨b,off,rfl,hc⟩:=Q.out.elem hx;have h0:=hc 0 (.int .u64 (x:Int)) rfl;simp only [Elem.jl,Nat.add_zero,Nat.mul_one] at h0;have hlt:=World.block_lt_of_cell? w _ h0;have hn:=NE.out b rfl;exact ⟨b,off,rfl,(World.cell?_of_block (a:=⟨b,off+j,none⟩) (hu.block b hlt hn)).trans h0⟩
    obtain ⟨b,off,rfl,d0⟩:=yM;have hnext:=Ij hx hz;have yK:=Il hx hz;have hnd:=HN.out j x hx hz;obtain ⟨T,hT⟩: ∃T,(dI S (l.take j)).1=T:=⟨_,rfl⟩;rw [hT] at hr hgd had hnext yK hnd;have t1:decide ((j:Int)<(k:Int))=true:=decide_eq_true (by omega);have t1':decide (j<k)=true:=decide_eq_true hjk;have j0:(0:Int)≤(j:Int):=by omega
    have j1:(j:Int)<(k:Int):=by omega
    have hml:=hgd.n2;have hmd:=hgd.made;have Zp:T.G.length≤1024∧T.used≤1024:=by have h':T.made=T.F.length+T.G.length+T.used:=had;omega
    obtain ⟨abA,adU⟩:=Zp;have HM:=Lib.hid (Po wr hr hgd hxb);obtain ⟨v,hv⟩: ∃v,dN T x=v:=⟨_,rfl⟩;rw [hv] at HM;have RR:=Lib.hid hr;have GG:=Lib.hid hgd;have AA:=Lib.hid had;have AG:=Lib.hid hag;have UU:=Lib.hid hu;have Vn:=Lib.hid hnext;have HHL:=Lib.hid yK;have HV:=Lib.hid hv;have HX2:=Lib.hid hx;have ND:=Lib.hid hnd;clear hr hgd had hag hu hnext yK hv hx hT hz hnd;by_cases hv0:v=0
    · subst hv0
      by_cases hu0:T.used=0
      · have hp:bg T x=(T,5):=by unfold bg;rw [HV.out,if_neg (fun y=>y rfl),if_pos hu0]
        have hE:E=(T,5):=by rw [←HE.out,HHL.out (by rw [hp];show (5:Int)≠0;decide),hp]
        subst hE;have H5:=Lib.hid (fun (w':World) (hb:Below wr.heap.size wr w')=>(RR.out.grew hb).c5);rw [hu0] at H5;clear hp hu0;go_wp2_with fail
        refine HM.out.mono ?_;rintro e w1 ⟨rfl,hb⟩;have B1:=Lib.hid hb;have c5:w1.cell? ⟨pp,5,none⟩=some (.int .i64 0):=H5.out _ hb;clear hb;go_wp2;go_ret;exact ⟨rfl,L',RR.out.grew B1.out,GG.out,AA.out,AG.out,UU.out.trans ((ak B1.out).mono (fun _ y=>y.elim))⟩
      · have t2:((T.used:Int)==0)=false:=by rw [beq_eq_false_iff_ne];omega
        have hp:bg T x=({T with G:=x::T.G,used:=T.used-1},0):=by unfold bg;rw [HV.out,if_neg (fun y=>y rfl),if_neg hu0]
        have hblk:=Ay GG.out HV.out;obtain ⟨n1,n2⟩:=ND.out HV.out;obtain ⟨q1,q2,q3⟩:=GG.out.back (T.used-1) hblk n1 n2;have hh:=GG.out.J5;have hbig:=GG.out.big;have HP:=Lib.hid (fun (w':World) (hb:Below wr.heap.size wr w')=>YQ w' (RR.out.grew hb) hbig q2 q3 hh abA rfl rfl);have Q1:=Lib.hid q1;have Q3:=Lib.hid q3;have u1:1≤T.used:=by omega
        rw [hp] at Vn;clear hp hu0 hblk n1 n2 q1 q2 q3 hh hbig;go_wp2_with fail
        refine HM.out.mono ?_;rintro e w1 ⟨rfl,hb⟩;have B1:=Lib.hid hb;have c5:=(RR.out.grew hb).c5;have c3:=(RR.out.grew hb).c3;clear hb;go_wp2_with fail
        go_region_held3 (fun w'=>w'.cell? ⟨pp,3,none⟩=some (.pointer (some ⟨p,0,none⟩))) (first|go_keep|exact c3)
         (first
          |(go_at_call 156;(with_reducible refine (HP.out _ B1.out).mono ?_);rintro e w3 ⟨rfl,hr3,hu3⟩;have R3:=Lib.hid hr3;have U3:=Lib.hid hu3;have c3:w3.cell? ⟨pp,3,none⟩=some (.pointer (some ⟨p,0,none⟩)):=hr3.c3;clear hr3 hu3))
        clear c5;have c5:=R3.out.c5;have f5:=R3.out.fz 5;have wu:IntKind.i64.wrap ((T.used:Int)-1)=(T.used:Int)-1:=IntWalk.i64_in _ ⟨by omega,by omega⟩;have R4:=Lib.hid (R3.out.set (S':={T with G:=x::T.G,used:=T.used-1}) 5 (.int .i64 ((T.used-1:Nat):Int)) rfl);clear c3;go_wp2;go_roundw
        case rel=>
         have e:(((T.used-1:Nat):Int))=(T.used:Int)-1:=by omega
         have r4:=R4.out;rw [e] at r4;have had:=AA.out;refine ⟨j+1,_,by omega,by go_num,by rw [Vn.out],by rw [Vn.out];exact r4,by rw [Vn.out];exact Q1.out, ?_,(AG.out.trans (Agree.put Q3.out)).mono ?_,((UU.out.trans ((ak B1.out).mono (fun _ y=>y.elim))).trans U3.out).trans ((fK _).mono fun b hb=> .inl hb)⟩
         · rw [Vn.out]
           have h':T.made=T.F.length+T.G.length+T.used:=had;show T.made=T.F.length+(x::T.G).length+(T.used-1);simp only [List.length_cons];omega
         · intro y hy
           rcases List.mem_append.1 hy with hy|hy
           · exact hy
           · rw [List.mem_singleton.1 hy];exact List.mem_of_getElem? HX2.out
        case measure=>simp [intOf];omega
    · have hp:bg T x=(T,v):=by unfold bg;rw [HV.out,if_pos hv0]
      have hE:E=(T,v):=by rw [←HE.out,HHL.out (by rw [hp];exact hv0),hp]
      subst hE;have t2:(v !=0)=true:=by rw [bne_iff_ne];exact hv0
      clear hp hv0;go_wp2_with fail
      refine HM.out.mono ?_;rintro e w1 ⟨rfl,hb⟩;have B1:=Lib.hid hb;clear hb;go_wp2;go_ret;exact ⟨rfl,L',RR.out.grew B1.out,GG.out,AA.out,AG.out,UU.out.trans ((ak B1.out).mono (fun _ y=>y.elim))⟩
  · obtain rfl:j=k:=by omega
    have t1:decide ((j:Int)<(j:Int))=false:=decide_eq_false (by omega);have htk:l.take j=l:=by rw [HK.out,List.take_length]
    rw [htk,HE.out] at hz hr hgd had;have RR:=Lib.hid hr;have GG:=Lib.hid hgd;have AA:=Lib.hid had;have AG:=Lib.hid hag;have UU:=Lib.hid hu;have HZ:=Lib.hid hz;clear hr hgd had hag hu hz htk;go_wp2;go_ret;rw [HZ.out];exact ⟨rfl,L',RR.out,GG.out,AA.out,AG.out,UU.out⟩
end Go.Proofs.YtpibbcnkgdmcbaaGreatDoor
namespace Go.Proofs.YtpibbcnkgdmcbaaGreatDoor
open Go.RowKit aC aF aG
theorem aH.onto {S:Nat→Prop} {w w' w2:World} (h:aH S w w') (k:aH (fun b=>S b∨w.heap.size≤b) w' w2):aH S w w2:=
 ⟨k.os.trans h.os,k.tape.trans h.tape,k.output.trans h.output,Nat.le_trans h.size k.size,fun b hb hs=>(k.block b (Nat.lt_of_lt_of_le hb h.size) (fun x=>by rcases x with x|x;exact hs x;omega)).trans (h.block b hb hs)⟩
theorem Jo {w w':World} {S:Nat→Prop} (hb:Below w.heap.size w w'):aH S w w':=(ak hb).mono fun _ x=>x.elim
theorem M9 (w:World) {p g h:Nat} {L:List Nat} {n:Int} (hm:bC w p g L) (hh:h≤18446744073709551615) (hn:0≤n∧n≤1000000000) (V:Value) (hV:Value.tuple #[.agg (if (bT L h n).isSome then wM h (((bT L h n).getD []).length:Int) else wM 0 0), .int .i64 (if (bT L h n).isSome then 0 else 3)]=V):
 (Calls Tryz.prog 174 #[.pointer (some ⟨p,0,none⟩), .int .u64 (h:Int), .int .i64 n] w.drew fun e w'=>e= .returned V∧Below w.heap.size w w')∧
 (Calls Tryz.prog 174 #[.pointer (some ⟨p,0,none⟩), .int .u64 (h:Int), .int .i64 n] (w.alloc (.cells #[.int .u64 0, .int .i64 0] 138)).drew fun e w'=>e= .returned V∧aV w' w.heap.size 138 #[.int .u64 0, .int .i64 0]∧Below w.heap.size w w'):=by
 subst hV;have b1:Below w.heap.size w w.drew:=(Below.refl _ w).drew;have b2:Below w.heap.size w (w.alloc (.cells #[.int .u64 0, .int .i64 0] 138)).drew:=((Below.refl _ w).alloc (Nat.le_refl _) _).drew;constructor
 · refine (pR p g L h n w.drew (hm.upd (ak b1) id id) hh (by omega) (by omega)).mono ?_
   rintro e w' ⟨rfl,hb⟩;exact ⟨rfl,b1.trans hb⟩
 · refine (pR p g L h n _ (hm.upd (ak b2) id id) hh (by omega) (by omega)).mono ?_
   rintro e w' ⟨rfl,hb⟩;exact ⟨rfl,(aV.new w _ _).drew.grew hb,ah b2 b2.size hb⟩
theorem Mr {S:PG} {L P:List Nat} (hc:Chain L S.cw P) (hP:P≠ []):(P++S.G).headD 0=S.cw:=by
 rw [qU hc];cases P with
 |nil=>exact absurd rfl hP
 |cons a t=>rfl
theorem dU.joined {w w':World} {pp p g b:Nat} {L P:List Nat} {S:PG} {M:List Nat} (h:dU w pp p g L S) (hm:bC w' p g M) {x:Nat} (l:dD w' pp 8 x ((S.G.length:Int)+(P.length:Int))) (W:dA (fun x=>x=g) (fun x i=>qZ pp 8 x i∨qZ b 0 x i) w w') (hb:b≠pp) (hc:(P++S.G).headD 0=x):dU w' pp p g M {S with G:=P++S.G}:=by
 have W2:dA (fun x=>x=g∨x=b) (qZ pp 8) w w':=W.mono (fun x hx=> .inl hx) (fun x i hx=>by
  rcases hx with hx|hx
  · exact .inr hx
  · exact .inl (.inr hx.1))
 have k:=h.B.ofList W2 (fun x=>by rcases x with x|x;exact h.ng x;exact hb x.symm) l;rw [←hc,show (S.G.length:Int)+(P.length:Int)=((P++S.G).length:Int) by rw [List.length_append];omega] at k;exact ⟨k,hm,h.np,h.ng⟩
theorem Lx (w:World) {pp p g:Nat} {L P:List Nat} {S:PG} (h:dU w pp p g L S) (hg:aJ L S) (hadd:FU S) (hcw:S.cw≤18446744073709551615) (hP:bT L S.cw (S.n:Int)=some P) (hu:P.length≤S.used):
 Calls Tryz.prog 150 #[.pointer (some ⟨pp,0,none⟩)] w fun e w'=>e= .returned (.tuple #[.int .i64 (P.length:Int), .int .i64 0])∧dU w' pp p g (if P= [] then L else ay.iC L (ku P) (S.G.headD 0)) (iB S P)∧aH (OO pp p g) w w':=by
 have hc:=(kJ hP).1;have hPl:P.length≤L.length:=by have:=(kJ hP).2;omega
 have hn2:=hg.n2;have hmd:=hg.made;have hbig:=hg.big;have had:S.made=S.F.length+S.G.length+S.used:=hadd;have hml:S.G.length≤1024∧S.used≤1024:=by omega
 obtain ⟨adV,Zp⟩:=hml;have hhG:=hg.J5;have HS:=Lib.hid (IV w h.post 0);have R0:=Lib.hid h;have c10:=h.c10;have hcell:=fun (w':World) (k1:CC w' pp 10 0 (xB (S.ct%18446744073709551616)) (wrap64 (wrap64 (S.ca:Int)+1))) (k2:dA (fun _=>False) (zG pp 10) w w')=>(h.BQ (x:=0) (t:=S.ct+1) (a:=S.ca+1) (by rwa [Oh] at k1) k2 (NA _):dU w' pp p g L (S.wrote 0));have FK:=Lib.hid hcell;by_cases h0:S.cw=0
 · have EI:P= []:=by
    unfold bT at hP;rw [h0,rowF_zero] at hP;exact (Option.some.inj hP).symm
   subst EI;rw [h0] at HS;rw [if_pos rfl];clear h hg hadd hc hPl hu hP h0 had hcell;go_enter Tryz.func150,Tryz.ntmps150
   go_wp2_with fail
   refine HS.out.mono ?_;rintro e w1 ⟨rfl,k1,k2⟩;have K1:=Lib.hid (FK.out _ k1 k2);have U1:=Lib.hid (Nz (p:=p) (g:=g) k2);clear k1 k2 c10;go_wp2
   go_ret2
   exact ⟨rfl,K1.out,U1.out⟩
 · have EI:P≠ []:=by rintro rfl;exact h0 hc
   rw [if_neg EI];have t0:((S.cw:Int)==0)=false:=by rw [beq_eq_false_iff_ne];omega
   have hV:Value.tuple #[.agg (if (bT L S.cw (S.n:Int)).isSome then wM S.cw (((bT L S.cw (S.n:Int)).getD []).length:Int) else wM 0 0), .int .i64 (if (bT L S.cw (S.n:Int)).isSome then 0 else 3)]=Value.tuple #[.agg #[.int .u64 (S.cw:Int), .int .i64 (P.length:Int)], .int .i64 0]:=by rw [hP];rfl
   have HCH:=Lib.hid (fun (w':World) (hm:bC w' p g L)=>M9 w' hm hcw ⟨by omega,by omega⟩ _ hV);have hal:tu ⟨L,S.cw,(P.length:Int)⟩=some P:=Je hc rfl hPl;have hj:=yA (lh:=S.G.headD 0) (ln:=(S.G.length:Int)) hal EI;have HG:=Lib.hid (Mr hc EI);obtain ⟨M,hM⟩: ∃M,ay.iC L (ku P) (S.G.headD 0)=M:=⟨_,rfl⟩;obtain ⟨m,hm⟩: ∃m,P.length=m:=⟨_,rfl⟩;rw [hM] at hj;rw [hm] at hu hal hj HCH hPl;have HJ:=Lib.hid (fun (w':World) (b:Nat) (hI:bC w' p g L) (l:dD w' pp 8 (S.G.headD 0) (S.G.length:Int)) (k:dD w' b 0 S.cw (m:Int)) (h1:pp≠p∧b≠p) (h2:pp≠g∧b≠g) (h3:pp≠b)=>Qc w' hI l k h1 h2 (.inl h3) (by show S.G.headD 0≤_;omega) hcw ⟨by omega,by omega⟩ ⟨by omega,by omega⟩);unfold yB at HJ;rw [hj] at HJ;simp only [Option.isSome_some,if_true,Option.getD_some] at HJ;have HPM:=Lib.hid hm;rw [hM,hm];have tN:decide ((S.used:Int)<(m:Int))=false:=decide_eq_false (by omega);have tN':decide (S.used<m)=false:=decide_eq_false (by omega);clear h hg hadd hc hPl hP h0 had hcell hV hal hj hM hm EI hhG hbig;go_enter Tryz.func150,Tryz.ntmps150
   go_wp2_with fail
   refine HS.out.mono ?_;rintro e WA ⟨rfl,k1,k2⟩;have R1:=Lib.hid (FK.out _ k1 k2);have U1:=Lib.hid (Nz (p:=p) (g:=g) k2);have Xe:=(FK.out _ k1 k2).lt;have hpl:=(FK.out _ k1 k2).mem.head.lt;have hgl:=(FK.out _ k1 k2).mem.row.lt;have hww:w.heap.size≤WA.heap.size:=U1.out.size;clear k1 k2 c10;have hne:WA.heap.size≠pp:=by omega
   have hne2:pp≠WA.heap.size:=by omega
   have c3:=R1.out.c3;have c2:WA.cell? ⟨pp,2,none⟩=some (.int .i64 (S.n:Int)):=R1.out.c2;have XZ:=Lib.hid (HCH.out _ R1.out.mem).1;have XY:=Lib.hid (HCH.out _ R1.out.mem).2;go_wp2_with fail
   go_region_held3 (fun w'=>w'.cell? ⟨pp,3,none⟩=some (.pointer (some ⟨p,0,none⟩))∧w'.cell? ⟨pp,2,none⟩=some (.int .i64 (S.n:Int))) (first|go_keep|exact ⟨c3,c2⟩)
    (first
     |(go_at_call 174;(with_reducible refine XZ.out.mono ?_);rintro e w5 ⟨rfl,hb⟩;have B5:=Lib.hid hb;have c3:=(R1.out.grew hb).c3;have c2:=(R1.out.grew hb).c2;clear hb)
     |(go_at_call 174;(with_reducible refine XY.out.mono ?_);rintro e w5 ⟨rfl,hk,hb⟩;have B5:=Lib.hid hb;have NB:=Lib.hid hk;have a0:w5.cell? ⟨WA.heap.size,0,none⟩=some (.int .u64 0):=hk.cell 0;have a1:w5.cell? ⟨WA.heap.size,1,none⟩=some (.int .i64 0):=hk.cell 1;have g0:w5.frozen? ⟨WA.heap.size,0,none⟩=false:=hk.frozen 0;have g1:w5.frozen? ⟨WA.heap.size,1,none⟩=false:=hk.frozen 1;have c3:=(R1.out.grew hb).c3;have c2:=(R1.out.grew hb).c2;clear hb hk))
   · have nb:=aV.new w5 138 #[.int .u64 (S.cw:Int), .int .i64 (m:Int)]
     have hB:Below WA.heap.size WA (w5.alloc (.cells #[.int .u64 (S.cw:Int), .int .i64 (m:Int)] 138)):=B5.out.alloc B5.out.size _;have hbW:WA.heap.size≤w5.heap.size:=B5.out.size;obtain ⟨b,hb⟩: ∃b,w5.heap.size=b:=⟨_,rfl⟩;obtain ⟨w6,Au⟩: ∃x,w5.alloc (.cells #[.int .u64 (S.cw:Int), .int .i64 (m:Int)] 138)=x:=⟨_,rfl⟩;rw [hb] at nb hbW⊢;rw [Au] at nb hB⊢;have HB:=Lib.hid hB;have NB6:=Lib.hid nb;rename_i fG;clear nb hb Au hB c3 c2 B5 fG;have R6:=Lib.hid (R1.out.grew HB.out);have c5:w6.cell? ⟨pp,5,none⟩=some (.int .i64 (S.used:Int)):=R6.out.c5;have c3:=R6.out.c3;have y1:w6.cell? ⟨b,1,none⟩=some (.int .i64 (m:Int)):=NB6.out.cell 1;have hbp:b≠p:=by omega
     have hbg:b≠g:=by omega
     have Qt:b≠pp:=by omega
     have NE:=Lib.hid (And.intro hbp (And.intro hbg Qt));clear hbp hbg Qt;go_wp2_with fail
     go_quiet (fail)
     go_wp2_with fail
     have R7:=Lib.hid (show dU (w6.drewN nq) pp p g L (S.wrote 0) from R6.out.grew (below_drewN (Below.refl _ _) _));have NB7:=Lib.hid (show aV (w6.drewN nq) b 138 #[.int .u64 (S.cw:Int), .int .i64 (m:Int)] from NB6.out.grew (below_drewN (Below.refl _ _) _));have HB7:=Lib.hid (show Below WA.heap.size WA (w6.drewN nq) from ah HB.out HB.out.size (below_drewN (Below.refl _ _) _));generalize w6.drewN nq=w7 at R7 NB7 HB7⊢
     clear c5 c3 y1;have c3:=R7.out.c3;have HJ7:=Lib.hid (HJ.out w7.drew b (R7.out.drew).mem (R7.out.drew).loc.G_ ⟨_,_,NB7.out.drew,rfl,rfl⟩ ⟨R7.out.np,NE.out.1⟩ ⟨R7.out.ng,NE.out.2.1⟩ (fun e=>NE.out.2.2 e.symm));have HR8:=Lib.hid (fun (w':World) (q1:bC w' p g M) (q2:dD w' pp 8 S.cw ((S.G.length:Int)+(m:Int))) (q4:dA (fun x=>x=g) (fun x i=>qZ pp 8 x i∨qZ b 0 x i) w7.drew w')=>(R7.out.drew.joined (P:=P) (x:=S.cw) q1 (by rw [HPM.out];exact q2) q4 NE.out.2.2 HG.out:dU w' pp p g M {S.wrote 0 with G:=P++S.G}));go_region_held3 (fun w'=>w'.cell? ⟨pp,3,none⟩=some (.pointer (some ⟨p,0,none⟩))) (first|go_keep|exact c3)
      (first
       |(go_at_call 175;(with_reducible refine HJ7.out.mono ?_);rintro e w8 ⟨rfl,q1,q2,q3,q4⟩;have R8:=Lib.hid (HR8.out w8 q1 q2 q4);have U8:=Lib.hid q4.upd;have c3:w8.cell? ⟨pp,3,none⟩=some (.pointer (some ⟨p,0,none⟩)):=R8.out.c3;clear q1 q2 q3 q4))
     clear c3;have c5:w8.cell? ⟨pp,5,none⟩=some (.int .i64 (S.used:Int)):=R8.out.c5;have f5:=R8.out.fz 5;have wu:IntKind.i64.wrap ((S.used:Int)-(m:Int))=(S.used:Int)-(m:Int):=IntWalk.i64_in _ ⟨by omega,by omega⟩;have R9:=Lib.hid (R8.out.set (S':={({S.wrote 0 with G:=P++S.G}:PG) with used:=S.used-m}) 5 (.int .i64 ((S.used-m:Nat):Int)) rfl);go_wp2
     go_ret2
     have e:(((S.used-m:Nat):Int))=(S.used:Int)-(m:Int):=by omega
     have r9:=R9.out;rw [e] at r9;refine ⟨rfl, ?_, ?_⟩
     · unfold iB
       rw [HPM.out];exact r9
     · refine (aH.onto (U1.out.trans (Jo HB7.out)) ?_).trans ((fK _).mono fun x hx=> .inl hx)
       refine aH.trans (Jo (Below.refl _ _).drew) (U8.out.mono fun x hx=> ?_);rcases hx with hx|⟨i,hx|hx⟩
       · exact .inl (.inr (.inr hx))
       · exact .inl (.inl hx.1)
       · exact .inr (by have:=hx.1;omega)
   · have nb:aV ((w5.setCell ⟨WA.heap.size,0,none⟩ (.int .u64 (S.cw:Int))).setCell ⟨WA.heap.size,1,none⟩ (.int .i64 (m:Int))) WA.heap.size 138 #[.int .u64 (S.cw:Int), .int .i64 (m:Int)]:=(NB.out.put 0 (.int .u64 (S.cw:Int))).put 1 (.int .i64 (m:Int))
     have hB:Below WA.heap.size WA ((w5.setCell ⟨WA.heap.size,0,none⟩ (.int .u64 (S.cw:Int))).setCell ⟨WA.heap.size,1,none⟩ (.int .i64 (m:Int))):=(B5.out.setCell (p:=⟨WA.heap.size,0,none⟩) (Nat.le_refl _) _).setCell (p:=⟨WA.heap.size,1,none⟩) (Nat.le_refl _) _;have hbW:WA.heap.size≤WA.heap.size:=Nat.le_refl _;obtain ⟨w6,Au⟩: ∃x,(w5.setCell ⟨WA.heap.size,0,none⟩ (.int .u64 (S.cw:Int))).setCell ⟨WA.heap.size,1,none⟩ (.int .i64 (m:Int))=x:=⟨_,rfl⟩;rw [Au] at nb hB⊢;obtain ⟨b,hb⟩: ∃b,WA.heap.size=b:=⟨_,rfl⟩;rename_i fG;clear fG a0 a1 g0 g1 NB Au c3 c2 B5;have HB:=Lib.hid hB;clear hB;rw [hb] at nb⊢;have NB6:=Lib.hid nb;replace hbW:WA.heap.size≤b:=Nat.le_of_eq hb;clear nb hb;have R6:=Lib.hid (R1.out.grew HB.out);have c5:w6.cell? ⟨pp,5,none⟩=some (.int .i64 (S.used:Int)):=R6.out.c5;have c3:=R6.out.c3;have y1:w6.cell? ⟨b,1,none⟩=some (.int .i64 (m:Int)):=NB6.out.cell 1;have hbp:b≠p:=by omega
     have hbg:b≠g:=by omega
     have Qt:b≠pp:=by omega
     have NE:=Lib.hid (And.intro hbp (And.intro hbg Qt));clear hbp hbg Qt;go_wp2_with fail
     go_quiet (fail)
     go_wp2_with fail
     have R7:=Lib.hid (show dU (w6.drewN nq) pp p g L (S.wrote 0) from R6.out.grew (below_drewN (Below.refl _ _) _));have NB7:=Lib.hid (show aV (w6.drewN nq) b 138 #[.int .u64 (S.cw:Int), .int .i64 (m:Int)] from NB6.out.grew (below_drewN (Below.refl _ _) _));have HB7:=Lib.hid (show Below WA.heap.size WA (w6.drewN nq) from ah HB.out HB.out.size (below_drewN (Below.refl _ _) _));generalize w6.drewN nq=w7 at R7 NB7 HB7⊢
     clear c5 c3 y1;have c3:=R7.out.c3;have HJ7:=Lib.hid (HJ.out w7.drew b (R7.out.drew).mem (R7.out.drew).loc.G_ ⟨_,_,NB7.out.drew,rfl,rfl⟩ ⟨R7.out.np,NE.out.1⟩ ⟨R7.out.ng,NE.out.2.1⟩ (fun e=>NE.out.2.2 e.symm));have HR8:=Lib.hid (fun (w':World) (q1:bC w' p g M) (q2:dD w' pp 8 S.cw ((S.G.length:Int)+(m:Int))) (q4:dA (fun x=>x=g) (fun x i=>qZ pp 8 x i∨qZ b 0 x i) w7.drew w')=>(R7.out.drew.joined (P:=P) (x:=S.cw) q1 (by rw [HPM.out];exact q2) q4 NE.out.2.2 HG.out:dU w' pp p g M {S.wrote 0 with G:=P++S.G}));go_region_held3 (fun w'=>w'.cell? ⟨pp,3,none⟩=some (.pointer (some ⟨p,0,none⟩))) (first|go_keep|exact c3)
      (first
       |(go_at_call 175;(with_reducible refine HJ7.out.mono ?_);rintro e w8 ⟨rfl,q1,q2,q3,q4⟩;have R8:=Lib.hid (HR8.out w8 q1 q2 q4);have U8:=Lib.hid q4.upd;have c3:w8.cell? ⟨pp,3,none⟩=some (.pointer (some ⟨p,0,none⟩)):=R8.out.c3;clear q1 q2 q3 q4))
     clear c3;have c5:w8.cell? ⟨pp,5,none⟩=some (.int .i64 (S.used:Int)):=R8.out.c5;have f5:=R8.out.fz 5;have wu:IntKind.i64.wrap ((S.used:Int)-(m:Int))=(S.used:Int)-(m:Int):=IntWalk.i64_in _ ⟨by omega,by omega⟩;have R9:=Lib.hid (R8.out.set (S':={({S.wrote 0 with G:=P++S.G}:PG) with used:=S.used-m}) 5 (.int .i64 ((S.used-m:Nat):Int)) rfl);go_wp2
     go_ret2
     have e:(((S.used-m:Nat):Int))=(S.used:Int)-(m:Int):=by omega
     have r9:=R9.out;rw [e] at r9;refine ⟨rfl, ?_, ?_⟩
     · unfold iB
       rw [HPM.out];exact r9
     · refine (aH.onto (U1.out.trans (Jo HB7.out)) ?_).trans ((fK _).mono fun x hx=> .inl hx)
       refine aH.trans (Jo (Below.refl _ _).drew) (U8.out.mono fun x hx=> ?_);rcases hx with hx|⟨i,hx|hx⟩
       · exact .inl (.inr (.inr hx))
       · exact .inl (.inl hx.1)
       · exact .inr (by have:=hx.1;omega)
end Go.Proofs.YtpibbcnkgdmcbaaGreatDoor
namespace Go.Proofs.YtpibbcnkgdmcbaaGreatDoor
open Go.RowKit aC aF aG
end Go.Proofs.YtpibbcnkgdmcbaaGreatDoor
namespace Go.Proofs.YtpibbcnkgdmcbaaGreatDoor
open Go.RowKit aC aF aG
theorem WI (w:World) {p g:Nat} {L:List Nat} {f s n:Nat} (hm:bC w p g L) (hg:aJ L (bR f s n)):
 Calls Tryz.prog 187 #[.pointer (some ⟨p,0,none⟩),iW f s (n:Int)] w fun e w'=> ∃pp,e= .returned (.tuple #[.pointer (some ⟨pp,0,none⟩), .int .i64 0])∧dU w' pp p g L (bR f s n)∧w.heap.size≤pp∧Below w.heap.size w w':=by
 have hz:=hg.sizes;have h1:f+16≤1048576∧s≤1048576∧n≤L.length:=hz;have h2:0<f:=hg.f0;have h3:16≤s:=hg.s16;have h4:1≤n:=hg.n1;have h5:n≤1024:=hg.n2;have h6:f+n*s≤L.length:=hg.fit;have hbig:=hg.big;have hmay:gJ f s (n:Int)=true:=hg.may;have hE:sO f s (n:Int)=f+n*s:=by unfold sO;rw [if_pos hmay,Int.toNat_natCast]
 have hB:kK f s (n:Int) 0=0:=by unfold kK;rw [if_pos hmay,if_pos ⟨Int.le_refl 0,by omega⟩]
 have HB:=Lib.hid (fun w=>za w f s (n:Int) 0 (by omega) (by omega) ⟨by omega,by omega⟩ ⟨by omega,by omega⟩);have HE:=Lib.hid (fun w=>Fa w f s (n:Int) (by omega) (by omega) ⟨by omega,by omega⟩);rw [hE] at HE;rw [hB] at HB;have HZ:=Lib.hid (fun (w':World) (h:bC w' p g L)=>lJ h);obtain ⟨E,hEE⟩: ∃E,f+n*s=E:=⟨_,rfl⟩;obtain ⟨N,hN⟩: ∃N,L.length=N:=⟨_,rfl⟩;obtain ⟨b,hbN⟩: ∃b,lg f s (n:Int) 0=b:=⟨_,rfl⟩;rw [hEE] at HE h6;rw [hN] at HZ h6;rw [hbN] at HB;have t1:((f:Int)==0)=false:=by rw [beq_eq_false_iff_ne];omega
 have t2:decide ((s:Int)<16)=false:=decide_eq_false (by omega);have t3:decide ((N:Int)<(E:Int))=false:=decide_eq_false (by omega);have t3':decide (N<E)=false:=decide_eq_false (by omega);have M0:=Lib.hid hm;have hpl:=hm.head.lt;have hgl:=hm.row.lt;clear hm hg hz h1 h2 h3 h4 h5 h6 hbig hmay hE hB hEE hN hbN;unfold iW at HB HE⊢;go_enter Tryz.func187,Tryz.ntmps187
 go_wp2_with fail
 generalize hW:w.alloc (.cells #[.int .u64 (f:Int), .int .u64 (s:Int), .int .i64 (n:Int)] 96)=W
 have ST:=Lib.hid (lQ w 96 f s (n:Int) hW);obtain ⟨bb,hbb⟩: ∃bb,w.heap.size=bb:=⟨_,rfl⟩;rw [hbb] at ST⊢;clear hW;refine (HB.out _).mono ?_;rintro e w1 ⟨rfl,hb⟩;have ST:=Lib.hid (ST.out.grew hb);have hc:=ST.out.cells;have d0:w1.cell? ⟨bb,0,none⟩=some (.int .u64 (f:Int)):=hc.1;have d1:w1.cell? ⟨bb,1,none⟩=some (.int .u64 (s:Int)):=hc.2.1;have d2:w1.cell? ⟨bb,2,none⟩=some (.int .i64 (n:Int)):=hc.2.2;clear hb hc;go_wp2_with fail
 refine (HE.out _).mono ?_;rintro e w2 ⟨rfl,hb⟩;have ST:=Lib.hid (ST.out.grew hb);have hc:=ST.out.cells;clear d0 d1 d2;have d0:w2.cell? ⟨bb,0,none⟩=some (.int .u64 (f:Int)):=hc.1;have d1:w2.cell? ⟨bb,1,none⟩=some (.int .u64 (s:Int)):=hc.2.1;have d2:w2.cell? ⟨bb,2,none⟩=some (.int .i64 (n:Int)):=hc.2.2;clear hb hc;go_wp2_with fail
 refine (HZ.out _ (M0.out.upd (ak ST.out.below) id id)).mono ?_;rintro e w3 ⟨rfl,rfl⟩;go_wp2
 go_ret2
 have hs:=ST.out.below.size;have hA: #[.int .u64 (f:Int), .int .u64 (s:Int), .int .i64 (n:Int), .pointer (some ⟨p,0,none⟩), .int .i64 0, .int .i64 0, .int .u64 0, .int .i64 0, .int .u64 0, .int .i64 0, .int .u64 0, .int .u64 0, .int .i64 0]=TS p (bR f s n):=by
  simp [TS,bR,wrap64]
 rw [hA];exact ⟨w2.heap.size,rfl,⟨aV.new w2 _ _,(M0.out.upd (ak ST.out.below) id id).upd (ak ((Below.refl _ w2).alloc (Nat.le_refl _) _)) id id,by omega,by omega⟩,hs,ST.out.below.alloc hs _⟩
end Go.Proofs.YtpibbcnkgdmcbaaGreatDoor
namespace Go.Proofs.YtpibbcnkgdmcbaaGreatDoor
open Go.RowKit aC aF aG
def XR (w:World) (pp p g:Nat) (O:Nat→Prop) (c:Addr) (L:List Nat) (S:PG):Prop:=dU w pp p g L S∧aJ L S∧FU S∧S.cw≤18446744073709551615∧c=⟨pp,10,none⟩∧O=OO pp p g
theorem Lh (S:PG):(aW S).cw=S.cw:=by unfold aW;split<;>first|rfl|(split<;>rfl)
theorem Bg (S:PG):(aP S).1.cw=S.cw:=by
 cases h:(aW S).F with
 |nil=>rw [jw h]
 |cons a t=>rw [iN h];exact Lh S
theorem QD (S:PG) (a:Nat):(bg S a).1.cw=S.cw:=by
 unfold bg;split
 · rfl
 · split<;>rfl
def acz (w:World) (i:Value) (wr:World):Prop:=i= .int .i64 0∧wr=w
theorem D5 (w:World) {pp p g:Nat} {L:List Nat} {S:PG} (h:dU w pp p g L S) (hg:aJ L S) {a:Option Addr} {cap x:Nat} (hq:Seq Elem.jl w (.slice a 1 cap) [x]) (hx:bM x) (hv:dN S x≠0):
 Calls Tryz.prog 129 #[.pointer (some ⟨pp,0,none⟩), .slice a 1 cap] w fun e w'=>e= .returned (.int .i64 (dN S x))∧Below w.heap.size w w':=by
 obtain ⟨b,off,rfl,hc⟩:=hq.elem (show [x][0]? =some x from rfl);have d0:w.cell? ⟨b,off,none⟩=some (.int .u64 (x:Int)):=by
  have h0:=hc 0 (.int .u64 (x:Int)) rfl
  simpa [Elem.jl] using h0
 have HM:=Lib.hid (Po w h hg hx);obtain ⟨v,hvv⟩: ∃v,dN S x=v:=⟨_,rfl⟩;rw [hvv] at HM hv⊢;have t2:(v !=0)=true:=by rw [bne_iff_ne];exact hv
 clear h hg hq hx hv hc hvv;go_enter Tryz.func129,Tryz.ntmps129
 go_wp2;go_loopw [13] (fun i wr=>acz w i wr) (fun _ _=>0)
 case atStart=>exact ⟨rfl,rfl⟩
 case round=>
  obtain ⟨rfl,rfl⟩:=hrel;go_wp2_with fail
  refine HM.out.mono ?_;rintro e w1 ⟨rfl,hb⟩;have B1:=Lib.hid hb;clear hb;go_wp2;go_ret;exact ⟨rfl,B1.out⟩
theorem AB {S:PG} {P:List Nat} (h:FU S) (hu:P.length≤S.used):FU (iB S P):=by
 have h':S.made=S.F.length+S.G.length+S.used:=h;show S.made=S.F.length+(P++S.G).length+(S.used-P.length);rw [List.length_append];omega
end Go.Proofs.YtpibbcnkgdmcbaaGreatDoor
