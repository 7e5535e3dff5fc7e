/- Pages12: texts of layers below, joined (PageGood PageA PageB PageC PageD PageE PageF PageG PageH). -/
import Derived.Test.YtippfeplogkaiaaGreatDoorWheres12
import Derived.Test.YtippfeplogkaiaaGreatDoorPageCl
import Derived.Test.YtippfeplogkaiaaGreatDoorCells12
import Derived.Test.YtippfeplogkaiaaGreatDoorGeos12
import Derived.Test.YtippfeplogkaiaaGreatDoorLists12
import Derived.Test.YtippfeplogkaiaaGreatDoorMaths12
namespace Go.Proofs.YtippfeplogkaiaaGreatDoor.PageMath
open ListMath GeoMath MemMath
set_option linter.unusedVariables false
theorem GoodP.headF {L:List Nat} {S:PG} (g:GoodP L S):S.F.headD 0≤1048576:=g.cF.head_le g.big
theorem GoodP.headG {L:List Nat} {S:PG} (g:GoodP L S):S.G.headD 0≤1048576:=g.cG.head_le g.big
theorem GoodP.sizes {L:List Nat} {S:PG} (g:GoodP L S):S.f+16≤1048576∧S.s≤1048576∧S.n≤L.length:=by
  have h1:=g.fit;have h2:=g.big;have h3:=g.s16;have h4:=g.n1
  have h5:=Nat.mul_le_mul h4 (Nat.le_refl S.s)
  have h6:=Nat.mul_le_mul (Nat.le_refl S.n) h3
  omega
theorem GoodP.toLocal {L:List Nat} {S:PG} (g:GoodP L S) (h:S.F= []):GoodP L {S with F:=S.G,G:= []}:=
  ⟨g.f0,g.s16,g.n1,g.n2,g.fit,g.big,g.made,g.cG,rfl,g.inG,(by intro a h;cases h),by have:=g.nd;rw [h,List.nil_append] at this;show (S.G++ []).Nodup;rwa [List.append_nil]⟩
theorem GoodP.pop {L:List Nat} {S:PG} {a:Nat} {t:List Nat} (g:GoodP L S) (u:Nat) (hF:S.F=a::t):GoodP L {S with F:=t,used:=u}∧linkAt L a=t.headD 0∧a+8≤L.length:=by
  have hc:=g.cF
  rw [hF] at hc
  obtain ⟨_,h0,h8,hc⟩:=hc
  have hl:=chain_head hc
  refine ⟨⟨g.f0,g.s16,g.n1,g.n2,g.fit,g.big,g.made, ?_,g.cG,fun x hx=>g.inF x (by rw [hF];exact List.mem_cons_of_mem _ hx),g.inG, ?_⟩,hl,h8⟩
  · show Chain L (t.headD 0) t
    rw [←hl];exact hc
  · have:=g.nd
    rw [hF,List.cons_append] at this
    exact (List.nodup_cons.1 this).2
theorem GoodP.more {L L':List Nat} {S:PG} {k:Nat} (g:GoodP L S) (h2:S.G= []) (hk:S.made+k≤S.n) (hl:L'.length=L.length) (hc:Chain L' ((news S.f S.s S.made k).headD 0) (news S.f S.s S.made k)):GoodP L' {S with F:=news S.f S.s S.made k,made:=S.made+k}:=by
  refine ⟨g.f0,g.s16,g.n1,g.n2,by rw [hl];exact g.fit,by rw [hl];exact g.big,hk,hc, ?_,fun a ha=>news_blk ha, ?_, ?_⟩
  · show Chain L' (S.G.headD 0) S.G
    rw [h2];rfl
  · intro a ha
    have ha':a∈S.G:=ha
    rw [h2] at ha';cases ha'
  · show (news S.f S.s S.made k++S.G).Nodup
    rw [h2,List.append_nil]
    exact news_nodup (by have:=g.s16;omega)
theorem GoodP.back {L:List Nat} {S:PG} {a:Nat} (g:GoodP L S) (u:Nat) (ha:IsBlk S.f S.s S.made a) (hf:a∉S.F) (hg:a∉S.G):
    GoodP (put8 L a (S.G.headD 0)) {S with G:=a::S.G,used:=u}∧a≠0∧a+8≤L.length:=by
  have h0:=ha.pos g.f0
  have hfit:=ha.fits g.made g.fit
  have hs:=g.s16
  have h8:a+8≤L.length:=by omega
  have hl:=length_put8 (L:=L) (x:=S.G.headD 0) h8
  refine ⟨⟨g.f0,g.s16,g.n1,g.n2,by rw [hl];exact g.fit,by rw [hl];exact g.big,g.made, ?_, ?_,g.inF, ?_, ?_⟩,h0,h8⟩
  · exact Chain.put h8 g.cF fun b hb=>ha.apart8 hs (g.inF b hb) (by rintro rfl;exact hf hb)
  · exact Chain.push g.cG h0 h8 (fun b hb=>ha.apart8 hs (g.inG b hb) (by rintro rfl;exact hg hb)) (by have:=g.headG;omega)
  · intro x hx
    rcases List.mem_cons.1 hx with rfl|hx
    · exact ha
    · exact g.inG x hx
  · refine List.perm_middle.nodup_iff.2 (List.nodup_cons.2 ⟨fun x=> ?_,g.nd⟩)
    rcases List.mem_append.1 x with x|x
    · exact hf x
    · exact hg x
theorem GoodP.gath {L P:List Nat} {S:PG} (g:GoodP L S) (hc:Chain L S.cw P) (hP:P≠ []) (hin: ∀x∈P,IsBlk S.f S.s S.made x∧x∉S.F∧x∉S.G) (hn:P.Nodup):
    GoodP (put8 L (lastD P) (S.G.headD 0)) (gathP S P)∧lastD P∈P∧lastD P+8≤L.length:=by
  rcases List.eq_nil_or_concat P with e|⟨o,z,e⟩
  · exact absurd e hP
  rw [List.concat_eq_append] at e
  subst e
  have hz:lastD (o++ [z])=z:=by unfold lastD;simp
  rw [hz]
  have hm:z∈o++ [z]:=List.mem_append_right _ (List.mem_singleton.2 rfl)
  obtain ⟨hb,hf,hg⟩:=hin z hm
  have hs:=g.s16
  have hfit:=hb.fits g.made g.fit
  have h8:z+8≤L.length:=by omega
  have hl:=length_put8 (L:=L) (x:=S.G.headD 0) h8
  have hzo:z∉o:=fun x=>(List.nodup_append.1 hn).2.2 z x z (List.mem_singleton.2 rfl) rfl
  refine ⟨⟨g.f0,g.s16,g.n1,g.n2,by rw [hl];exact g.fit,by rw [hl];exact g.big,g.made, ?_, ?_,g.inF, ?_, ?_⟩,hm,h8⟩
  · exact Chain.put h8 g.cF fun b hb2=>hb.apart8 hs (g.inF b hb2) (by rintro rfl;exact hf hb2)
  · have:=Chain.join h8 (by have:=g.headG;omega) g.cG (fun b hb2=>hb.apart8 hs (g.inG b hb2) (by rintro rfl;exact hg hb2)) hc (fun b hb2=>hb.apart8 hs (hin b (List.mem_append_left _ hb2)).1 (by rintro rfl;exact hzo hb2))
    show Chain _ ((o++ [z]++S.G).headD 0) (o++ [z]++S.G)
    rw [←chain_head this];exact this
  · intro x hx
    rcases List.mem_append.1 hx with hx|hx
    · exact (hin x hx).1
    · exact g.inG x hx
  · show (S.F++(o++ [z]++S.G)).Nodup
    have h1:=List.nodup_append.1 g.nd
    rw [List.nodup_append]
    refine ⟨h1.1, ?_,fun a ha b hb2 hab=> ?_⟩
    · rw [List.nodup_append]
      exact ⟨hn,h1.2.1,fun a ha b hb2 hab=>by subst hab;exact (hin a ha).2.2 hb2⟩
    · subst hab
      rcases List.mem_append.1 hb2 with hb2|hb2
      · exact (hin a hb2).2.1 ha
      · exact h1.2.2 a ha a hb2 rfl
theorem push_new {L:List Nat} {S:PG} {k r a:Nat} (g1:0<S.f) (g2:16≤S.s) (g3:S.f+S.n*S.s≤L.length) (g4:L.length≤1048576) (hk:S.made+k≤S.n) (hr:r<k) (ha:a=S.f+(S.made+(k-(r+1)))*S.s)
    (hc:Chain L ((news S.f S.s (S.made+(k-r)) r).headD 0) (news S.f S.s (S.made+(k-r)) r)):
    push1 ⟨L,(news S.f S.s (S.made+(k-r)) r).headD 0,(r:Int)⟩ a=(⟨put8 L a ((news S.f S.s (S.made+(k-r)) r).headD 0),a,(r:Int)+1⟩,0)∧
      news S.f S.s (S.made+(k-(r+1))) (r+1)=a::news S.f S.s (S.made+(k-r)) r∧
      Chain (put8 L a ((news S.f S.s (S.made+(k-r)) r).headD 0)) a (a::news S.f S.s (S.made+(k-r)) r)∧Agree L (put8 L a ((news S.f S.s (S.made+(k-r)) r).headD 0)) [a]∧a∈news S.f S.s S.made k∧a≤1048576:=by
  have hb:IsBlk S.f S.s S.n a:=⟨_,by omega,ha⟩
  have h0:=hb.pos g1
  have hfit:=hb.fits (Nat.le_refl _) g3
  have h8:a+8≤L.length:=by omega
  have hh:=hc.head_le g4
  have en:news S.f S.s (S.made+(k-(r+1))) (r+1)=a::news S.f S.s (S.made+(k-r)) r:=by
    rw [news_cons (by omega),←ha,show S.made+(k-(r+1))+1=S.made+(k-r) by omega,Nat.add_sub_cancel]
  refine ⟨?_,en, ?_,Agree.put h8, ?_,by omega⟩
  · unfold push1;rw [if_neg h0,if_pos h8]
  · refine Chain.push hc h0 h8 (fun b hb2=> ?_) (by omega)
    have hb3:IsBlk S.f S.s (S.made+(k-r)+r) b:=news_blk hb2
    refine hb.apart8 g2 hb3 ?_
    rintro rfl
    have hn:=news_nodup (f:=S.f) (s:=S.s) (made:=S.made+(k-(r+1))) (k:=r+1) (by omega)
    rw [en] at hn
    exact (List.nodup_cons.1 hn).1 hb2
  · unfold news
    exact List.mem_map.2 ⟨k-(r+1),List.mem_range.2 (by omega),ha.symm⟩
theorem allocP_cons {S:PG} {a:Nat} {t:List Nat} (h:(refill S).F=a::t):allocP S=({refill S with F:=t,used:=S.used+1},a,0):=by unfold allocP;rw [h]
theorem allocP_nil {S:PG} (h:(refill S).F= []):allocP S=(S,0,4):=by unfold allocP;rw [h]
theorem refill_add {S:PG} (h:S.made=S.F.length+S.G.length+S.used):(refill S).made=(refill S).F.length+(refill S).G.length+S.used:=by
  by_cases h1:S.F= []
  · by_cases h2:S.G= []
    · rw [(refill_more h1 h2).1]
      show S.made+_=(news _ _ _ _).length+S.G.length+_
      rw [news_len];rw [h1] at h;simp at h⊢;omega
    · rw [(refill_local h1 h2).1]
      show S.made=S.G.length+0+S.used
      rw [h1] at h;simp at h;omega
  · rw [(refill_some h1).1];exact h
end Go.Proofs.YtippfeplogkaiaaGreatDoor.PageMath
namespace Go.Proofs.YtippfeplogkaiaaGreatDoor
open Go.RowKit ListMath PageMath GeoMath
set_option linter.unusedVariables false
def pgA (p:Nat) (S:PG):Array Value:= #[.int .u64 (S.f:Int), .int .u64 (S.s:Int), .int .i64 (S.n:Int), .pointer (some ⟨p,0,none⟩), .int .i64 (S.made:Int), .int .i64 (S.used:Int), .int .u64 ((S.F.headD 0:Nat):Int), .int .i64 (S.F.length:Int), .int .u64 ((S.G.headD 0:Nat):Int), .int .i64 (S.G.length:Int), .int .u64 (S.cw:Int), .int .u64 ((S.ct%18446744073709551616:Nat):Int), .int .i64 (wrap64 (S.ca:Int))]
structure RPg (w:World) (pp p g:Nat) (L:List Nat) (S:PG):Prop where
  B:Blk w pp 256 (pgA p S)
  mem:IsMem w p g L
  np:pp≠p
  ng:pp≠g
def OO (pp p g:Nat) (b:Nat):Prop:=b=pp∨b=p∨b=g
section
variable {w w':World} {pp p g:Nat} {L:List Nat} {S:PG}
theorem RPg.c0 (h:RPg w pp p g L S):w.cell? ⟨pp,0,none⟩=some (.int .u64 (S.f:Int)):=h.B.cell 0
theorem RPg.c1 (h:RPg w pp p g L S):w.cell? ⟨pp,1,none⟩=some (.int .u64 (S.s:Int)):=h.B.cell 1
theorem RPg.c2 (h:RPg w pp p g L S):w.cell? ⟨pp,2,none⟩=some (.int .i64 (S.n:Int)):=h.B.cell 2
theorem RPg.c3 (h:RPg w pp p g L S):w.cell? ⟨pp,3,none⟩=some (.pointer (some ⟨p,0,none⟩)):=h.B.cell 3
theorem RPg.c4 (h:RPg w pp p g L S):w.cell? ⟨pp,4,none⟩=some (.int .i64 (S.made:Int)):=h.B.cell 4
theorem RPg.c5 (h:RPg w pp p g L S):w.cell? ⟨pp,5,none⟩=some (.int .i64 (S.used:Int)):=h.B.cell 5
theorem RPg.c6 (h:RPg w pp p g L S):w.cell? ⟨pp,6,none⟩=some (.int .u64 ((S.F.headD 0:Nat):Int)):=h.B.cell 6
theorem RPg.c7 (h:RPg w pp p g L S):w.cell? ⟨pp,7,none⟩=some (.int .i64 (S.F.length:Int)):=h.B.cell 7
theorem RPg.c8 (h:RPg w pp p g L S):w.cell? ⟨pp,8,none⟩=some (.int .u64 ((S.G.headD 0:Nat):Int)):=h.B.cell 8
theorem RPg.c9 (h:RPg w pp p g L S):w.cell? ⟨pp,9,none⟩=some (.int .i64 (S.G.length:Int)):=h.B.cell 9
theorem RPg.c10 (h:RPg w pp p g L S):w.cell? ⟨pp,10,none⟩=some (.int .u64 (S.cw:Int)):=h.B.cell 10
theorem RPg.c11 (h:RPg w pp p g L S):w.cell? ⟨pp,11,none⟩=some (.int .u64 ((S.ct%18446744073709551616:Nat):Int)):=h.B.cell 11
theorem RPg.c12 (h:RPg w pp p g L S):w.cell? ⟨pp,12,none⟩=some (.int .i64 (wrap64 (S.ca:Int))):=h.B.cell 12
theorem RPg.fz (h:RPg w pp p g L S) (i:Nat):w.frozen? ⟨pp,i,none⟩=false:=h.B.frozen i
theorem RPg.lt (h:RPg w pp p g L S):pp<w.heap.size:=h.B.lt
theorem RPg.upd {T:Nat→Prop} (h:RPg w pp p g L S) (u:Upd T w w') (hT: ∀b,T b→ ¬OO pp p g b):RPg w' pp p g L S:=
  ⟨h.B.upd u (fun x=>hT _ x (.inl rfl)),h.mem.upd u (fun x=>hT _ x (.inr (.inl rfl))) (fun x=>hT _ x (.inr (.inr rfl))),h.np,h.ng⟩
theorem RPg.grew (h:RPg w pp p g L S) (hb:Below w.heap.size w w'):RPg w' pp p g L S:=h.upd (updFalse_of hb) (fun _ x=>x.elim)
theorem RPg.drew (h:RPg w pp p g L S):RPg w.drew pp p g L S:=h.grew (Below.refl _ _).drew
theorem RPg.set {S':PG} (h:RPg w pp p g L S) (i:Nat) (v:Value) (e:(pgA p S).setIfInBounds i v=pgA p S'):RPg (w.setCell ⟨pp,i,none⟩ v) pp p g L S':=by
  have b:=h.B.put i v
  rw [e] at b
  exact ⟨b,h.mem.upd (upd_set v) (fun e=>h.np e.symm) (fun e=>h.ng e.symm),h.np,h.ng⟩
theorem RPg.lay {L':List Nat} (h:RPg w pp p g L S) (m:IsMem w' p g L') (u:Upd (fun b=>b=g) w w'):RPg w' pp p g L' S:=⟨h.B.upd u h.ng,m,h.np,h.ng⟩
theorem RPg.free (h:RPg w pp p g L S):PL w p g pp 6 ⟨L,S.F.headD 0,(S.F.length:Int)⟩:=⟨h.mem,⟨_,_,h.B,rfl,rfl⟩,h.np,h.ng⟩
theorem RPg.loc (h:RPg w pp p g L S):PL w p g pp 8 ⟨L,S.G.headD 0,(S.G.length:Int)⟩:=⟨h.mem,⟨_,_,h.B,rfl,rfl⟩,h.np,h.ng⟩
theorem RPg.post (h:RPg w pp p g L S):CC w pp 10 S.cw (S.ct%18446744073709551616) (wrap64 (S.ca:Int)):=⟨_,_,h.B,rfl,rfl,rfl⟩
theorem RPg.ofFree {Z:Nat→Prop} {s:LS} {F:List Nat} (h:RPg w pp p g L S) (k:PL w' p g pp 6 s) (W:Wrt Z (LPl pp 6) w w') (hz: ¬Z pp) (e1:s.h=F.headD 0) (e2:s.n=(F.length:Int)):RPg w' pp p g s.L {S with F:=F}:=by
  have b:=h.B.ofList W hz k.lst
  rw [e1,e2] at b
  exact ⟨b,k.mem,h.np,h.ng⟩
theorem RPg.ofLoc {Z:Nat→Prop} {s:LS} {G:List Nat} (h:RPg w pp p g L S) (k:PL w' p g pp 8 s) (W:Wrt Z (LPl pp 8) w w') (hz: ¬Z pp) (e1:s.h=G.headD 0) (e2:s.n=(G.length:Int)):RPg w' pp p g s.L {S with G:=G}:=by
  have b:=h.B.ofList W hz k.lst
  rw [e1,e2] at b
  exact ⟨b,k.mem,h.np,h.ng⟩
theorem RPg.ofCell {x t a:Nat} {n:Int} (h:RPg w pp p g L S) (k:CC w' pp 10 x (t%18446744073709551616) n) (W:Wrt (fun _=>False) (CPl pp 10) w w') (e:n=wrap64 (a:Int)):RPg w' pp p g L {S with cw:=x,ct:=t,ca:=a}:=by
  have b:=h.B.ofCell W id k
  rw [e] at b
  exact ⟨b,h.mem.upd W.upd (fun x=>by rcases x with x|⟨i,x,_⟩;exact x.elim;exact h.np x.symm) (fun x=>by rcases x with x|⟨i,x,_⟩;exact x.elim;exact h.ng x.symm),h.np,h.ng⟩
end
theorem tagS_mod (t:Nat):tagS (t%18446744073709551616)=(t+1)%18446744073709551616:=by unfold tagS;omega
theorem wrap_ask (a:Nat):wrap64 (wrap64 (a:Int)+1)=wrap64 ((a+1:Nat):Int):=by
  unfold wrap64
  omega
theorem wrtOO {w w':World} {pp p g o:Nat} (W:Wrt (fun b=>b=g) (LPl pp o) w w'):Upd (OO pp p g) w w':=W.upd.mono fun b hb=>by
  rcases hb with hb|⟨i,hb,_⟩
  · exact .inr (.inr hb)
  · exact .inl hb
theorem wrtOO0 {w w':World} {pp p g o:Nat} (W:Wrt (fun _=>False) (LPl pp o) w w'):Upd (OO pp p g) w w':=W.upd.mono fun b hb=>by
  rcases hb with hb|⟨i,hb,_⟩
  · exact hb.elim
  · exact .inl hb
theorem wrtOOc {w w':World} {pp p g o:Nat} (W:Wrt (fun _=>False) (CPl pp o) w w'):Upd (OO pp p g) w w':=W.upd.mono fun b hb=>by
  rcases hb with hb|⟨i,hb,_⟩
  · exact hb.elim
  · exact .inl hb
theorem code_nrun (w:World) (f s:Nat) (n:Int):Calls Tryz.prog 145 #[.agg #[.int .u64 (f:Int), .int .u64 (s:Int), .int .i64 n]] w fun e w'=>e= .returned (runV f s n)∧Below w.heap.size w w':=by
  go_enter Tryz.func145,Tryz.ntmps145
  go_wp2
  refine bodyPost_ret (v:=runV f s n) ?_ rfl ⟨rfl, ?_⟩
  · simp [results,Tryz.results145,go_sem,runV]
  · exact ((Below.refl _ w).alloc (Nat.le_refl _) _).alloc (by simp) _
section
variable {w:World} {pp p g:Nat} {L:List Nat} {S:PG}
theorem pg_used (h:RPg w pp p g L S):Calls Tryz.prog 259 #[.pointer (some ⟨pp,0,none⟩)] w fun e w'=>e= .returned (.int .i64 (S.used:Int))∧Below w.heap.size w w':=by
  have c5:=h.c5
  clear h
  go_enter Tryz.func259,Tryz.ntmps259
  go_wp2
  go_ret
  exact ⟨rfl,Below.refl _ _⟩
theorem pg_made (h:RPg w pp p g L S):Calls Tryz.prog 87 #[.pointer (some ⟨pp,0,none⟩)] w fun e w'=>e= .returned (.int .i64 (S.made:Int))∧Below w.heap.size w w':=by
  have c4:=h.c4
  clear h
  go_enter Tryz.func87,Tryz.ntmps87
  go_wp2
  go_ret
  exact ⟨rfl,Below.refl _ _⟩
end
theorem pg_run (w:World) {pp p g:Nat} {L:List Nat} {S:PG} (h:RPg w pp p g L S):Calls Tryz.prog 85 #[.pointer (some ⟨pp,0,none⟩)] w fun e w'=>e= .returned (runV S.f S.s (S.n:Int))∧Below w.heap.size w w':=by
  have c0:=h.c0;have c1:=h.c1;have c2:=h.c2
  have H:=Lib.hid (fun w=>code_nrun w S.f S.s (S.n:Int))
  have hlt:=h.lt
  clear h
  unfold runV at H
  go_enter Tryz.func85,Tryz.ntmps85
  go_wp2_with fail
  generalize hW:w.alloc (.cells #[.int .u64 0, .int .u64 0, .int .i64 0] 183)=W
  have BW:=Lib.hid (show Below w.heap.size w W from hW▸(Below.refl _ w).alloc (Nat.le_refl _) _)
  have NW:=Lib.hid (show Blk W w.heap.size 183 _ from hW▸Blk.new w 183 _)
  obtain ⟨bb,hbb⟩: ∃bb,w.heap.size=bb:=⟨_,rfl⟩
  rw [hbb] at NW
  clear hW
  refine (H.out _).mono ?_;rintro e w1 ⟨rfl,hb⟩
  have B1:=Lib.hid (below_then BW.out BW.out.size hb)
  have n1:=NW.out.grew hb
  have d0:=n1.cell 0;have d1:=n1.cell 1;have d2:=n1.cell 2
  have f0:=n1.frozen 0;have f1:=n1.frozen 1;have f2:=n1.frozen 2
  have N1:=Lib.hid n1
  clear hb n1
  go_wp2
  have n2:=((N1.out.put 0 (.int .u64 (S.f:Int))).put 1 (.int .u64 (S.s:Int))).put 2 (.int .i64 (S.n:Int))
  have b2:=((B1.out.setCell (p:=⟨bb,0,none⟩) (Nat.le_of_eq hbb) (.int .u64 (S.f:Int))).setCell (p:=⟨bb,1,none⟩) (Nat.le_of_eq hbb) (.int .u64 (S.s:Int))).setCell (p:=⟨bb,2,none⟩) (Nat.le_of_eq hbb) (.int .i64 (S.n:Int))
  generalize ((w1.setCell ⟨bb,0,none⟩ (.int .u64 (S.f:Int))).setCell ⟨bb,1,none⟩ (.int .u64 (S.s:Int))).setCell ⟨bb,2,none⟩ (.int .i64 (S.n:Int))=W5 at n2 b2⊢
  have e0:W5.cell? ⟨bb,0,none⟩=some (.int .u64 (S.f:Int)):=n2.cell 0
  have e1:W5.cell? ⟨bb,1,none⟩=some (.int .u64 (S.s:Int)):=n2.cell 1
  have e2:W5.cell? ⟨bb,2,none⟩=some (.int .i64 (S.n:Int)):=n2.cell 2
  refine bodyPost_ret (v:=runV S.f S.s (S.n:Int)) ?_ rfl ⟨rfl,b2⟩
  simp [results,Tryz.results85,go_sem,runV,e0,e1,e2]
set_option maxHeartbeats 1000000 in
theorem pg_may (w:World) {pp p g a:Nat} {L:List Nat} {S:PG} (h:RPg w pp p g L S) (hg:GoodP L S) (ha:U64B a):Calls Tryz.prog 233 #[.pointer (some ⟨pp,0,none⟩), .int .u64 (a:Int)] w fun e w'=>e= .returned (.int .i64 (givenE S a))∧Below w.heap.size w w':=by
  have c0:=h.c0;have c1:=h.c1;have c2:=h.c2
  have H:=Lib.hid (fun w=>code_nrun w S.f S.s (S.n:Int))
  have hz:=hg.sizes
  have hn2:=hg.n2
  have HI:=Lib.hid (fun w=>code_index w S.f S.s (S.n:Int) a (by omega) (by omega) ⟨by omega,by omega⟩ ha)
  have h4:=fun (w':World) (hb:Below w.heap.size w w')=>(h.grew hb).c4
  have H4:=Lib.hid h4
  obtain ⟨E,hE⟩: ∃E,givenE S a=E:=⟨_,rfl⟩
  rw [hE]
  unfold givenE at hE
  obtain ⟨i,hi⟩: ∃i,indexN S.f S.s (S.n:Int) a=i:=⟨_,rfl⟩
  obtain ⟨x,hx⟩: ∃x,indexE S.f S.s (S.n:Int) a=x:=⟨_,rfl⟩
  rw [hi,hx] at hE HI
  have HE:=Lib.hid hE
  clear h hg hz hn2 hE hi hx h4 ha
  unfold runV at H HI
  by_cases hx0:x=0
  · subst hx0
    have e1:=HE.out
    rw [if_pos rfl] at e1
    have HE:=Lib.hid e1
    clear e1
    by_cases hi:i<S.made
    · have e1:=HE.out
      rw [if_pos hi] at e1
      subst e1
      have t1:decide ((S.made:Int)≤(i:Int))=false:=decide_eq_false (by omega)
      have t2:decide (S.made≤i)=false:=decide_eq_false (by omega)
      go_enter Tryz.func233,Tryz.ntmps233
      go_wp2_with fail
      refine (H.out _).mono ?_;rintro e w1 ⟨rfl,hb⟩
      have B1:=Lib.hid hb
      clear hb
      go_wp2_with fail
      refine (HI.out _).mono ?_;rintro e w2 ⟨rfl,hb⟩
      have B2:=Lib.hid (below_then B1.out B1.out.size hb)
      have c4:=H4.out _ B2.out
      clear hb
      go_wp2
      go_ret
      exact ⟨rfl,B2.out⟩
    · have e1:=HE.out
      rw [if_neg hi] at e1
      subst e1
      have t1:decide ((S.made:Int)≤(i:Int))=true:=decide_eq_true (by omega)
      have t2:decide (S.made≤i)=true:=decide_eq_true (by omega)
      go_enter Tryz.func233,Tryz.ntmps233
      go_wp2_with fail
      refine (H.out _).mono ?_;rintro e w1 ⟨rfl,hb⟩
      have B1:=Lib.hid hb
      clear hb
      go_wp2_with fail
      refine (HI.out _).mono ?_;rintro e w2 ⟨rfl,hb⟩
      have B2:=Lib.hid (below_then B1.out B1.out.size hb)
      have c4:=H4.out _ B2.out
      clear hb
      go_wp2
      go_ret
      exact ⟨rfl,B2.out⟩
  · have e1:=HE.out
    rw [if_neg hx0] at e1
    subst e1
    have t1:(x !=0)=true:=by rw [bne_iff_ne];exact hx0
    go_enter Tryz.func233,Tryz.ntmps233
    go_wp2_with fail
    refine (H.out _).mono ?_;rintro e w1 ⟨rfl,hb⟩
    have B1:=Lib.hid hb
    clear hb
    go_wp2_with fail
    refine (HI.out _).mono ?_;rintro e w2 ⟨rfl,hb⟩
    have B2:=Lib.hid (below_then B1.out B1.out.size hb)
    clear hb
    go_wp2
    go_ret
    exact ⟨rfl,B2.out⟩
end Go.Proofs.YtippfeplogkaiaaGreatDoor
namespace Go.Proofs.YtippfeplogkaiaaGreatDoor
open Go.RowKit ListMath PageMath GeoMath
set_option linter.unusedVariables false
theorem pushF (w:World) {pp p g:Nat} {L:List Nat} {S:PG} (h:RPg w pp p g L S) {a:Nat} (hL:L.length≤1048576) (h0:a≠0) (h8:a+8≤L.length) (hh:S.F.headD 0≤1048576) (hn:S.F.length≤1024) {W:World} (e:W=(w.alloc (.cells #[.int .u64 (a:Int)] 36)).drew) {b:Nat} (hb:b=w.heap.size):
    Calls Tryz.prog 257 #[.pointer (some ⟨pp,6,none⟩), .pointer (some ⟨p,0,none⟩), .slice (some ⟨b,0,none⟩) 1 1] W fun e w'=>e= .returned (.int .i64 0)∧RPg w' pp p g (MemMath.put8 L a (S.F.headD 0)) {S with F:=a::S.F}∧Upd (OO pp p g) w w':=by
  subst e hb
  have hq:Seq Elem.u64s (w.alloc (.cells #[.int .u64 (a:Int)] 36)).drew (.slice (some ⟨w.heap.size,0,none⟩) 1 1) [a]:=(Seq.new (E:=Elem.u64s) w _ [a] 1).upd (updFalse_of (Below.refl _ _).drew) (fun _ _=>id)
  have hlt:=h.lt
  have hg:=h.mem.row.lt
  have b0:Below w.heap.size w (w.alloc (.cells #[.int .u64 (a:Int)] 36)).drew:=((Below.refl _ w).alloc (Nat.le_refl _) _).drew
  have h1:=h.grew b0
  refine (push_any _ h1.free hq (fun _ b hb=> ?_) (by intro x hx;rw [List.mem_singleton.1 hx];omega) (by decide) (by show S.F.headD 0≤_;omega) ⟨by show (0:Int)≤(S.F.length:Int);omega,by show (S.F.length:Int)≤_;omega⟩).mono ?_
  · have hbe:b=w.heap.size:=by cases hb;rfl
    exact ⟨by omega,by omega⟩
  · rintro e w' ⟨rfl,k1,k2⟩
    have hp:push1 ⟨L,S.F.headD 0,(S.F.length:Int)⟩ a=(⟨MemMath.put8 L a (S.F.headD 0),a,(S.F.length:Int)+1⟩,0):=by unfold push1;rw [if_neg h0,if_pos h8]
    rw [pushN_one,hp] at k1
    refine ⟨by rw [pushN_one,hp],h1.ofFree k1 k2 h1.ng rfl (by simp),((updFalse_of b0).mono (fun _ x=>x.elim)).trans (wrtOO k2)⟩
theorem pushG (w:World) {pp p g:Nat} {L:List Nat} {S:PG} (h:RPg w pp p g L S) {a:Nat} (hL:L.length≤1048576) (h0:a≠0) (h8:a+8≤L.length) (hh:S.G.headD 0≤1048576) (hn:S.G.length≤1024) {W:World} (e:W=(w.alloc (.cells #[.int .u64 (a:Int)] 36)).drew) {b:Nat} (hb:b=w.heap.size):
    Calls Tryz.prog 257 #[.pointer (some ⟨pp,8,none⟩), .pointer (some ⟨p,0,none⟩), .slice (some ⟨b,0,none⟩) 1 1] W fun e w'=>e= .returned (.int .i64 0)∧RPg w' pp p g (MemMath.put8 L a (S.G.headD 0)) {S with G:=a::S.G}∧Upd (OO pp p g) w w':=by
  subst e hb
  have hq:Seq Elem.u64s (w.alloc (.cells #[.int .u64 (a:Int)] 36)).drew (.slice (some ⟨w.heap.size,0,none⟩) 1 1) [a]:=(Seq.new (E:=Elem.u64s) w _ [a] 1).upd (updFalse_of (Below.refl _ _).drew) (fun _ _=>id)
  have hlt:=h.lt
  have hg:=h.mem.row.lt
  have b0:Below w.heap.size w (w.alloc (.cells #[.int .u64 (a:Int)] 36)).drew:=((Below.refl _ w).alloc (Nat.le_refl _) _).drew
  have h1:=h.grew b0
  refine (push_any _ h1.loc hq (fun _ b hb=> ?_) (by intro x hx;rw [List.mem_singleton.1 hx];omega) (by decide) (by show S.G.headD 0≤_;omega) ⟨by show (0:Int)≤(S.G.length:Int);omega,by show (S.G.length:Int)≤_;omega⟩).mono ?_
  · have hbe:b=w.heap.size:=by cases hb;rfl
    exact ⟨by omega,by omega⟩
  · rintro e w' ⟨rfl,k1,k2⟩
    have hp:push1 ⟨L,S.G.headD 0,(S.G.length:Int)⟩ a=(⟨MemMath.put8 L a (S.G.headD 0),a,(S.G.length:Int)+1⟩,0):=by unfold push1;rw [if_neg h0,if_pos h8]
    rw [pushN_one,hp] at k1
    refine ⟨by rw [pushN_one,hp],h1.ofLoc k1 k2 h1.ng rfl (by simp),((updFalse_of b0).mono (fun _ x=>x.elim)).trans (wrtOO k2)⟩
def MkR (w:World) (pp p g:Nat) (L:List Nat) (S:PG) (k:Nat) (i:Value) (wr:World):Prop:=
  ∃ (r:Nat) (I:Int) (L':List Nat),r≤k∧I=(S.made:Int)+(k:Int)-1-(r:Int)∧i= .int .i64 I∧L'.length=L.length∧RPg wr pp p g L' {S with F:=news S.f S.s (S.made+(k-r)) r}∧
    Chain L' ((news S.f S.s (S.made+(k-r)) r).headD 0) (news S.f S.s (S.made+(k-r)) r)∧Agree L L' (news S.f S.s S.made k)∧Upd (OO pp p g) w wr
set_option maxHeartbeats 4000000 in
set_option maxRecDepth 100000 in
theorem pg_some (w:World) {pp p g:Nat} {L:List Nat} {S:PG} (h:RPg w pp p g L S) (hg:GoodP L S) (hF:S.F= []) (hG:S.G= []):
    Calls Tryz.prog 272 #[.pointer (some ⟨pp,0,none⟩)] w fun e w'=>e= .returned (.int .i64 0)∧ ∃L',RPg w' pp p g L' (refill S)∧GoodP L' (refill S)∧Agree L L' (newsOf S)∧Upd (OO pp p g) w w':=by
  obtain ⟨er,en⟩:=refill_more hF hG
  obtain ⟨k,hk⟩: ∃k,min 4 (S.n-S.made)=k:=⟨_,rfl⟩
  rw [er,en,hk]
  have hmn:=hg.made
  have hkn:S.made+k≤S.n:=by omega
  have hk4:k≤4:=by omega
  have hn2:=hg.n2
  have c2:=h.c2;have c4:=h.c4
  have hmin: ∀w,(Builtin.min_ #[3,3] 3 #[.int .i64 ((S.made:Int)+4), .int .i64 (S.n:Int)]).run Tryz.prog w= .ok (.int .i64 ((S.made+k:Nat):Int)) w:=fun w=>by
    rw [run_min_int2]
    have:(if (S.n:Int)<(S.made:Int)+4 then (S.n:Int) else (S.made:Int)+4)=((S.made+k:Nat):Int):=by split<;>omega
    rw [this]
  have I0:MkR w pp p g L S k (.int .i64 ((S.made:Int)+(k:Int)-1)) w.drew:=by
    refine ⟨0,(S.made:Int)+(k:Int)-1,L,Nat.zero_le _,by omega,rfl,rfl, ?_,rfl,Agree.refl _ _,(Upd.refl _ w).drew⟩
    have:=h.drew
    have e:({S with F:=news S.f S.s (S.made+(k-0)) 0}:PG)=S:=by rw [news_zero,←hF]
    rw [e];exact this
  have II:=Lib.hid I0
  have HG:=Lib.hid hg
  have H:=Lib.hid (fun w=>code_nrun w S.f S.s (S.n:Int))
  have HFG:=Lib.hid (And.intro hF hG)
  clear h hg I0 er en hF hG
  go_enter Tryz.func272,Tryz.ntmps272
  go_wp2_with fail
  go_region
  go_wp2
  go_loopw [4] (fun i wr=>MkR w pp p g L S k i wr) (fun i _=>(intOf i+1-S.made).toNat)
  case atStart=>exact II.out
  case round=>
    obtain ⟨r,I,L',hr,hI,rfl,hlen,hR,hc,ha,hu⟩:=hrel
    have c0:=hR.c0;have c1:=hR.c1;have c2:=hR.c2;have c4:=hR.c4
    by_cases hrk:r<k
    · have t1:decide ((S.made:Int)≤I)=true:=decide_eq_true (by omega)
      have i0:0≤I:=by omega
      have i1:I≤2000:=by omega
      have i2:(S.made:Int)≤I:=by omega
      obtain ⟨a,haa⟩: ∃a,a=S.f+(S.made+(k-(r+1)))*S.s:=⟨_,rfl⟩
      have hm:=HG.out.may
      have hz:=HG.out.sizes
      obtain ⟨k1,k2,k3,k4,k5,k6⟩:=push_new HG.out.f0 HG.out.s16 (by rw [hlen];exact HG.out.fit) (by rw [hlen];exact HG.out.big) hkn hrk haa hc
      have hIn:I.toNat=S.made+(k-(r+1)):=by omega
      have hbN:blockN S.f S.s (S.n:Int) I=a:=by unfold blockN;rw [if_pos ⟨hm,i0,by omega⟩,hIn,haa]
      have hbE:blockE S.f S.s (S.n:Int) I=0:=by unfold blockE;rw [if_pos hm,if_pos ⟨i0,by omega⟩]
      have HB:=Lib.hid (fun w=>code_block w S.f S.s (S.n:Int) I (by omega) (by omega) ⟨by omega,by omega⟩ ⟨by omega,by omega⟩)
      rw [hbN,hbE] at HB
      have hF0:a≠0:=by have:=HG.out.f0;omega
      have hF8:a+8≤L'.length:=by have:=k3.2.2.1;rwa [k4.1] at this
      have HH:(news S.f S.s (S.made+(k-r)) r).headD 0≤1048576:=hc.head_le (by rw [hlen];exact HG.out.big)
      have HP:=Lib.hid (fun (w':World) (hb:Below wr.heap.size wr w')=>pushF w' (hR.grew hb) (a:=a) (by rw [hlen];exact HG.out.big) hF0 hF8 HH (by show (news _ _ _ _).length≤_;rw [news_len];omega) rfl rfl)
      have RR:=Lib.hid hR;have HC:=Lib.hid hc;have HA:=Lib.hid ha;have HU:=Lib.hid hu;have HI:=Lib.hid hI;have HK:=Lib.hid (And.intro k1 (And.intro k2 (And.intro k3 (And.intro k4 k5))))
      have hsw:wr.heap.size=wr.heap.size:=rfl
      clear hR hc ha hu hI k1 k2 k3 k4 k5 hm hbN hbE hIn HH hF8 haa hz
      unfold runV at H HB
      go_wp2_with fail
      refine (H.out _).mono ?_;rintro e w1 ⟨rfl,hb⟩
      have B1:=Lib.hid hb
      clear hb
      go_wp2_with fail
      refine (HB.out _).mono ?_;rintro e w2 ⟨rfl,hb⟩
      have B2:=Lib.hid (below_then B1.out B1.out.size hb)
      have c3:=(RR.out.grew B2.out).c3
      clear hb c0 c1 c2 c4
      go_wp2_with fail
      go_region_held3 (fun w'=>w'.cell? ⟨pp,3,none⟩=some (.pointer (some ⟨p,0,none⟩))) (first|go_keep|exact c3)
        (first
          |(go_at_call 257;(with_reducible refine (HP.out _ B2.out).mono ?_);rintro e w3 ⟨rfl,hr3,hu3⟩;have R3:=Lib.hid hr3;have U3:=Lib.hid hu3;have c3:w3.cell? ⟨pp,3,none⟩=some (.pointer (some ⟨p,0,none⟩)):=hr3.c3;clear hr3 hu3))
      have wI:IntKind.i64.wrap (I-1)=I-1:=IntWalk.i64_in _ ⟨by omega,by omega⟩
      go_wp2
      go_roundw
      case rel=>
        obtain ⟨k1,k2,k3,k4,k5⟩:=HK.out
        have hIr:=HI.out
        refine ⟨r+1,I-1,MemMath.put8 L' a ((news S.f S.s (S.made+(k-r)) r).headD 0),by omega,by omega,rfl,k4.1.trans hlen, ?_, ?_,(HA.out.trans k4).mono ?_,HU.out.trans (((updFalse_of B2.out).mono (fun _ x=>x.elim)).trans U3.out)⟩
        · rw [k2];exact R3.out
        · rw [k2];exact k3
        · intro x hx
          rcases List.mem_append.1 hx with hx|hx
          · exact hx
          · rw [List.mem_singleton.1 hx];exact k5
      case measure=>simp [intOf];omega
    · obtain rfl:r=k:=by omega
      have t1:decide ((S.made:Int)≤I)=false:=decide_eq_false (by omega)
      have f4:=hR.fz 4
      have RR:=Lib.hid hR;have HC:=Lib.hid hc;have HA:=Lib.hid ha;have HU:=Lib.hid hu;have HI:=Lib.hid hI;have HL:=Lib.hid hlen
      clear hR hc ha hu hI hlen
      go_wp2
      go_ret
      refine ⟨rfl,L', ?_, ?_,HA.out,HU.out.trans ((upd_set _).mono fun b hb=> .inl hb)⟩
      · have h2:=RR.out.set (S':={S with F:=news S.f S.s (S.made+(r-r)) r,made:=S.made+r}) 4 (.int .i64 ((S.made+r:Nat):Int)) rfl
        rw [Nat.sub_self,Nat.add_zero] at h2
        have e:((S.made+r:Nat):Int)=(S.made:Int)+(r:Int):=by omega
        rw [e] at h2
        exact h2
      · have h3:=HC.out
        rw [Nat.sub_self,Nat.add_zero] at h3
        exact HG.out.more HFG.out.2 hkn HL.out h3
end Go.Proofs.YtippfeplogkaiaaGreatDoor
namespace Go.Proofs.YtippfeplogkaiaaGreatDoor
open Go.RowKit ListMath PageMath GeoMath
set_option linter.unusedVariables false
theorem refill_same {S:PG} (h:(refill S).F= []):refill S=S:=by
  by_cases h1:S.F= []
  · by_cases h2:S.G= []
    · have e:=(refill_more h1 h2).1
      rw [e] at h
      have hn:(news S.f S.s S.made (min 4 (S.n-S.made))).length=0:=by
        have h':news S.f S.s S.made (min 4 (S.n-S.made))= []:=h
        rw [h'];rfl
      rw [news_len] at hn
      rw [e,hn,news_zero,Nat.add_zero,←h1]
    · rw [(refill_local h1 h2).1] at h;exact absurd h h2
  · rw [(refill_some h1).1] at h;exact absurd h h1
set_option maxHeartbeats 2000000 in
theorem pg_refill (w:World) {pp p g:Nat} {L:List Nat} {S:PG} (h:RPg w pp p g L S) (hg:GoodP L S) (hl:S.F.length≤1024∧S.G.length≤1024):
    Calls Tryz.prog 249 #[.pointer (some ⟨pp,0,none⟩)] w fun e w'=>e= .returned (.int .i64 (if (refill S).F= [] then 4 else 0))∧ ∃L',RPg w' pp p g L' (refill S)∧GoodP L' (refill S)∧Agree L L' (newsOf S)∧Upd (OO pp p g) w w':=by
  have c7:=h.c7
  have HG:=Lib.hid hg
  by_cases h1:S.F= []
  · have f6:=h.fz 6;have f7:=h.fz 7;have f8:=h.fz 8;have f9:=h.fz 9
    have c8:=h.c8;have c9:=h.c9
    replace c7:w.cell? ⟨pp,7,none⟩=some (.int .i64 0):=by rw [h1] at c7;exact c7
    by_cases h2:S.G= []
    · replace c8:w.cell? ⟨pp,8,none⟩=some (.int .u64 0):=by rw [h2] at c8;exact c8
      replace c9:w.cell? ⟨pp,9,none⟩=some (.int .i64 0):=by rw [h2] at c9;exact c9
      have c6:w.cell? ⟨pp,6,none⟩=some (.int .u64 0):=by have:=h.c6;rw [h1] at this;exact this
      have eF:S.F.headD 0=0:=by rw [h1];rfl
      have eG:S.G.headD 0=0:=by rw [h2];rfl
      have eL:S.F.length=0:=by rw [h1];rfl
      have eM:S.G.length=0:=by rw [h2];rfl
      have hs:RPg ((((w.setCell ⟨pp,6,none⟩ (.int .u64 0)).setCell ⟨pp,7,none⟩ (.int .i64 0)).setCell ⟨pp,8,none⟩ (.int .u64 0)).setCell ⟨pp,9,none⟩ (.int .i64 0)) pp p g L S:=by
        refine RPg.set (S:=S) (RPg.set (S:=S) (RPg.set (S:=S) (RPg.set (S:=S) h 6 _ ?_) 7 _ ?_) 8 _ ?_) 9 _ ?_
        · unfold pgA;rw [eF];rfl
        · unfold pgA;rw [eL];rfl
        · unfold pgA;rw [eG];rfl
        · unfold pgA;rw [eM];rfl
      have hu:Upd (OO pp p g) w ((((w.setCell ⟨pp,6,none⟩ (.int .u64 0)).setCell ⟨pp,7,none⟩ (.int .i64 0)).setCell ⟨pp,8,none⟩ (.int .u64 0)).setCell ⟨pp,9,none⟩ (.int .i64 0)):=
        ((((Upd.refl _ w).setCell (.inl (.inl rfl)) _).setCell (.inl (.inl rfl)) _).setCell (.inl (.inl rfl)) _).setCell (.inl (.inl rfl)) _
      have HS:=Lib.hid hs;have HU:=Lib.hid hu
      have HM:=Lib.hid (fun (w':World) (k:RPg w' pp p g L S)=>pg_some w' k hg h1 h2)
      clear h hg h1 h2 eF eG eL eM hs hu
      by_cases hr:(refill S).F= []
      · have hr7:((refill S).F.length:Int)=0:=by rw [hr];rfl
        rw [if_pos hr]
        clear hr
        go_enter Tryz.func249,Tryz.ntmps249
        go_wp2_with fail
        refine (HM.out _ HS.out).mono ?_;rintro e w1 ⟨rfl,L',k1,k2,k3,k4⟩
        have c7:=k1.c7
        rw [hr7] at c7
        have K1:=Lib.hid k1;have K2:=Lib.hid k2;have K3:=Lib.hid k3;have K4:=Lib.hid k4
        clear k1 k2 k3 k4 hr7
        go_wp2
        go_ret
        exact ⟨rfl,L',K1.out,K2.out,K3.out,HU.out.trans K4.out⟩
      · have hr7:(((refill S).F.length:Int)==0)=false:=by
          rw [beq_eq_false_iff_ne]
          intro x
          exact hr (List.eq_nil_of_length_eq_zero (by omega))
        rw [if_neg hr]
        clear hr
        obtain ⟨z,hz⟩: ∃z,(refill S).F.length=z:=⟨_,rfl⟩
        rw [hz] at hr7
        have HZ:=Lib.hid hz
        clear hz
        go_enter Tryz.func249,Tryz.ntmps249
        go_wp2_with fail
        refine (HM.out _ HS.out).mono ?_;rintro e w1 ⟨rfl,L',k1,k2,k3,k4⟩
        have c7:=k1.c7
        rw [HZ.out] at c7
        have K1:=Lib.hid k1;have K2:=Lib.hid k2;have K3:=Lib.hid k3;have K4:=Lib.hid k4
        clear k1 k2 k3 k4
        go_wp2
        go_ret
        exact ⟨rfl,L',K1.out,K2.out,K3.out,HU.out.trans K4.out⟩
    · have c6:w.cell? ⟨pp,6,none⟩=some (.int .u64 0):=by have:=h.c6;rw [h1] at this;exact this
      obtain ⟨e1,e2⟩:=refill_local h1 h2
      rw [e1,e2]
      have e3:(if ({S with F:=S.G,G:= []}:PG).F= [] then (4:Int) else 0)=0:=if_neg h2
      rw [e3]
      have hn:((S.G.length:Int)==0)=false:=by
        rw [beq_eq_false_iff_ne]
        intro x
        exact h2 (List.eq_nil_of_length_eq_zero (by omega))
      obtain ⟨a,ha⟩: ∃a,S.G.headD 0=a:=⟨_,rfl⟩
      obtain ⟨m,hm⟩: ∃m,S.G.length=m:=⟨_,rfl⟩
      have hs:RPg ((((w.setCell ⟨pp,6,none⟩ (.int .u64 (a:Int))).setCell ⟨pp,7,none⟩ (.int .i64 (m:Int))).setCell ⟨pp,8,none⟩ (.int .u64 0)).setCell ⟨pp,9,none⟩ (.int .i64 0)) pp p g L {S with F:=S.G,G:= []}:=by
        subst ha hm
        have b:=(((h.B.put 6 (.int .u64 ((S.G.headD 0:Nat):Int))).put 7 (.int .i64 (S.G.length:Int))).put 8 (.int .u64 0)).put 9 (.int .i64 0)
        exact ⟨b,(((h.mem.upd (upd_set _) (fun e=>h.np e.symm) (fun e=>h.ng e.symm)).upd (upd_set _) (fun e=>h.np e.symm) (fun e=>h.ng e.symm)).upd (upd_set _) (fun e=>h.np e.symm) (fun e=>h.ng e.symm)).upd (upd_set _) (fun e=>h.np e.symm) (fun e=>h.ng e.symm),h.np,h.ng⟩
      have hu:Upd (OO pp p g) w ((((w.setCell ⟨pp,6,none⟩ (.int .u64 (a:Int))).setCell ⟨pp,7,none⟩ (.int .i64 (m:Int))).setCell ⟨pp,8,none⟩ (.int .u64 0)).setCell ⟨pp,9,none⟩ (.int .i64 0)):=
        ((((Upd.refl _ w).setCell (.inl (.inl rfl)) _).setCell (.inl (.inl rfl)) _).setCell (.inl (.inl rfl)) _).setCell (.inl (.inl rfl)) _
      rw [ha] at c8
      rw [hm] at c9 hn
      have HS:=Lib.hid hs;have HU:=Lib.hid hu
      have HL:=Lib.hid (hg.toLocal h1)
      clear h hg h1 h2 hs hu e1 e2 ha hm e3 hl
      go_enter Tryz.func249,Tryz.ntmps249
      go_wp2
      go_ret
      exact ⟨rfl,L,HS.out,HL.out,Agree.refl _ _,HU.out⟩
  · obtain ⟨e1,e2⟩:=refill_some h1
    rw [e1,e2,if_neg h1]
    have hn:((S.F.length:Int)==0)=false:=by
      rw [beq_eq_false_iff_ne]
      intro x
      exact h1 (List.eq_nil_of_length_eq_zero (by omega))
    obtain ⟨m,hm⟩: ∃m,S.F.length=m:=⟨_,rfl⟩
    rw [hm] at c7 hn
    have HS:=Lib.hid h
    clear h hg h1 e1 e2 hm hl
    go_enter Tryz.func249,Tryz.ntmps249
    go_wp2
    go_ret
    exact ⟨rfl,L,HS.out,HG.out,Agree.refl _ _,Upd.refl _ _⟩
set_option maxHeartbeats 2000000 in
theorem pg_alloc (w:World) {pp p g:Nat} {L:List Nat} {S:PG} (h:RPg w pp p g L S) (hg:GoodP L S) (ha:S.made=S.F.length+S.G.length+S.used):
    Calls Tryz.prog 217 #[.pointer (some ⟨pp,0,none⟩)] w fun e w'=>e= .returned (.tuple #[.int .u64 ((allocP S).2.1:Int), .int .i64 (allocP S).2.2])∧ ∃L',RPg w' pp p g L' (allocP S).1∧GoodP L' (allocP S).1∧(allocP S).1.made=(allocP S).1.F.length+(allocP S).1.G.length+(allocP S).1.used∧Agree L L' (newsOf S)∧Upd (OO pp p g) w w':=by
  have hm:=hg.made;have hn2:=hg.n2
  have HR:=Lib.hid (pg_refill w h hg ⟨by omega,by omega⟩)
  have hra:=refill_add ha
  have hrn:(refill S).n=S.n∧(refill S).made≤S.n:=by have:=refill_good hg;exact ⟨this.2.2.2.2,this.2.1⟩
  have hru:(refill S).used=S.used:=by unfold refill;split<;>first|rfl|(split<;>rfl)
  cases hF:(refill S).F with
  | nil=>
    rw [allocP_nil hF]
    rw [refill_same hF] at HR
    rw [refill_same hF] at hF
    rw [if_pos hF] at HR
    have HA:=Lib.hid ha
    clear h hg ha hra hrn hru hF hm hn2
    go_enter Tryz.func217,Tryz.ntmps217
    go_wp2_with fail
    refine HR.out.mono ?_;rintro e w1 ⟨rfl,L',k1,k2,k3,k4⟩
    have K1:=Lib.hid k1;have K2:=Lib.hid k2;have K3:=Lib.hid k3;have K4:=Lib.hid k4
    clear k1 k2 k3 k4
    go_wp2
    go_ret2
    exact ⟨rfl,L',K1.out,K2.out,HA.out,K3.out,K4.out⟩
  | cons x t=>
    rw [allocP_cons hF]
    rw [if_neg (by rw [hF];exact List.cons_ne_nil _ _)] at HR
    obtain ⟨T,hT⟩: ∃T,refill S=T:=⟨_,rfl⟩
    rw [hT] at HR hF hra hrn hru⊢
    rw [hF] at hra
    simp only [List.length_cons] at hra
    have hub:S.used≤1024:=by omega
    have htl:t.length≤1024:=by omega
    rw [←hru] at hub hra
    have HF:=Lib.hid hF;have HRA:=Lib.hid hra
    rw [←hru]
    clear h hg ha hm hn2 hF hra hT hrn hru
    go_enter Tryz.func217,Tryz.ntmps217
    go_wp2_with fail
    refine HR.out.mono ?_;rintro e w1 ⟨rfl,L',k1,k2,k3,k4⟩
    have c3:=k1.c3
    have hpop:=k2.pop (T.used+1) HF.out
    have hx:T.F.headD 0=x:=by rw [HF.out];rfl
    have hp:popN ⟨L',T.F.headD 0,(T.F.length:Int)⟩=(⟨L',t.headD 0,(t.length:Int)⟩,x,0):=by
      have hl:(T.F.length:Int)=(t.length:Int)+1:=by rw [HF.out];simp
      unfold popN
      rw [hl,hx]
      simp only []
      rw [if_neg (by omega),if_pos hpop.2.2,hpop.2.1]
      simp
    have hh:=k2.headF
    have HP:=Lib.hid (fun (w':World) (hb:Below w1.heap.size w1 w')=>pop_any w' (k1.grew hb).free (by show T.F.headD 0≤_;omega) ⟨by show (0:Int)≤(T.F.length:Int);omega,by show (T.F.length:Int)≤_;rw [HF.out];simp only [List.length_cons];omega⟩)
    rw [hp] at HP
    have HOK:=Lib.hid hpop.1
    have K1:=Lib.hid k1;have K2:=Lib.hid k2;have K3:=Lib.hid k3;have K4:=Lib.hid k4
    clear k1 k2 k3 k4 hpop hp hx hh
    go_wp2_with fail
    go_region_held3 (fun w'=>w'.cell? ⟨pp,3,none⟩=some (.pointer (some ⟨p,0,none⟩))) (first|go_keep|exact c3)
      (first
        |(go_at_call 250;(with_reducible refine (HP.out _ (Below.refl _ _).drew).mono ?_);rintro e w2 ⟨rfl,j1,j2⟩;have J1:=Lib.hid j1;have J2:=Lib.hid j2;have c3:w2.cell? ⟨pp,3,none⟩=some (.pointer (some ⟨p,0,none⟩)):=((K1.out.grew (Below.refl _ _).drew).ofFree (F:=t) j1 j2 id rfl rfl).c3;clear j1 j2))
    have r2:=(K1.out.grew (Below.refl _ _).drew).ofFree (F:=t) J1.out J2.out id rfl rfl
    have c5:=r2.c5
    have f5:=r2.fz 5
    have wu:IntKind.i64.wrap ((T.used:Int)+1)=(T.used:Int)+1:=IntWalk.i64_in _ ⟨by omega,by omega⟩
    have U2:=Lib.hid ((Upd.refl (OO pp p g) w1).drew.trans (wrtOO0 (p:=p) (g:=g) J2.out))
    have R2:=Lib.hid (r2.set (S':={{T with F:=t} with used:=T.used+1}) 5 (.int .i64 ((T.used+1:Nat):Int)) rfl)
    clear r2 c3
    go_wp2
    go_ret2
    have e:(((T.used+1:Nat):Int))=(T.used:Int)+1:=by omega
    have r3:=R2.out
    rw [e] at r3
    refine ⟨rfl,L',r3,HOK.out, ?_,K3.out,(K4.out.trans U2.out).trans ((upd_set _).mono fun b hb=> .inl hb)⟩
    have:=HRA.out
    show T.made=t.length+T.G.length+(T.used+1)
    omega
end Go.Proofs.YtippfeplogkaiaaGreatDoor
namespace Go.Proofs.YtippfeplogkaiaaGreatDoor
open Go.RowKit ListMath PageMath GeoMath
set_option linter.unusedVariables false
def AddP (S:PG):Prop:=S.made=S.F.length+S.G.length+S.used
theorem freeP_app: ∀(l m:List Nat) (S:PG),(freeP S l).2=0→freeP S (l++m)=freeP (freeP S l).1 m
  | [],m,S,_=>rfl
  | a ::t,m,S,h=>by
    have h':(if (free1 S a).2=0 then freeP (free1 S a).1 t else free1 S a).2=0:=h
    show (if (free1 S a).2=0 then freeP (free1 S a).1 (t++m) else free1 S a)=freeP (if (free1 S a).2=0 then freeP (free1 S a).1 t else free1 S a).1 m
    by_cases h1:(free1 S a).2=0
    · rw [if_pos h1] at h'
      rw [if_pos h1,if_pos h1]
      exact freeP_app t m _ h'
    · rw [if_neg h1] at h';exact absurd h' h1
theorem freeP_one (S:PG) (a:Nat):freeP S [a]=free1 S a:=by
  show (if (free1 S a).2=0 then ((free1 S a).1,0) else free1 S a)=free1 S a
  split
  · rename_i h;rw [←h]
  · rfl
theorem freeP_stop (S:PG) (a:Nat) (m:List Nat) (h:(free1 S a).2≠0):freeP S (a::m)=free1 S a:=if_neg h
theorem freeP_take {S:PG} {l:List Nat} {j a:Nat} (ha:l[j]? =some a) (h:(freeP S (l.take j)).2=0):freeP S (l.take (j+1))=free1 (freeP S (l.take j)).1 a:=by
  rw [List.take_add_one,ha]
  show freeP S (l.take j++ [a])=_
  rw [freeP_app _ _ _ h,freeP_one]
theorem freeP_halt {S:PG} {l:List Nat} {j a:Nat} (ha:l[j]? =some a) (h:(freeP S (l.take j)).2=0) (h2:(free1 (freeP S (l.take j)).1 a).2≠0):freeP S l=free1 (freeP S (l.take j)).1 a:=by
  obtain ⟨hl,rfl⟩:=List.getElem?_eq_some_iff.1 ha
  have e:l=l.take j++l[j]::l.drop (j+1):=by rw [←List.drop_eq_getElem_cons hl,List.take_append_drop]
  rw [show freeP S l=freeP S (l.take j++l[j]::l.drop (j+1)) from congrArg _ e,freeP_app _ _ _ h,freeP_stop _ _ _ h2]
def FreeR (w:World) (pp p g k:Nat) (L:List Nat) (S:PG) (l:List Nat) (i:Value) (wr:World):Prop:=
  ∃(j:Nat) (L':List Nat),j≤k∧i= .int .i64 (j:Int)∧(freeP S (l.take j)).2=0∧RPg wr pp p g L' (freeP S (l.take j)).1∧GoodP L' (freeP S (l.take j)).1∧AddP (freeP S (l.take j)).1∧Agree L L' l∧Upd (OO pp p g) w wr
set_option maxHeartbeats 4000000 in
theorem pg_free (w:World) {pp p g:Nat} {L:List Nat} {S:PG} (h:RPg w pp p g L S) (hg:GoodP L S) (hadd:AddP S) {a:Option Addr} {k cap:Nat} {l:List Nat} (hq:Seq Elem.u64s w (.slice a k cap) l) (hne: ∀b,In (.slice a k cap) b→ ¬OO pp p g b) (hk:k≤2000) (hx: ∀x∈l,U64B x) (hnd: ∀j x,l[j]? =some x→(freeP S (l.take j)).2=0→givenE (freeP S (l.take j)).1 x=0→x∉(freeP S (l.take j)).1.F∧x∉(freeP S (l.take j)).1.G):
    Calls Tryz.prog 230 #[.pointer (some ⟨pp,0,none⟩), .slice a k cap] w fun e w'=>e= .returned (.int .i64 (freeP S l).2)∧ ∃L',RPg w' pp p g L' (freeP S l).1∧GoodP L' (freeP S l).1∧AddP (freeP S l).1∧Agree L L' l∧Upd (OO pp p g) w w':=by
  have hlen:=hq.len
  have Q:=Lib.hid hq;have NE:=Lib.hid hne;have HX:=Lib.hid hx;have HK:=Lib.hid hlen;have HN:=Lib.hid hnd
  have I0:FreeR w pp p g k L S l (.int .i64 0) w:=⟨0,L,Nat.zero_le _,rfl,rfl,h,hg,hadd,Agree.refl _ _,Upd.refl _ _⟩
  have II:=Lib.hid I0
  obtain ⟨E,hE⟩: ∃E,freeP S l=E:=⟨_,rfl⟩
  rw [hE]
  have HE:=Lib.hid hE
  clear hq hne hx hlen hnd h hg hadd I0 hE
  go_enter Tryz.func230,Tryz.ntmps230
  go_wp2
  go_loopw [13] (fun i wr=>FreeR w pp p g k L S l i wr) (fun i _=>k-(intOf i).toNat)
  case atStart=>exact II.out
  case round=>
    obtain ⟨j,L',hj,rfl,hz,hr,hgd,had,hag,hu⟩:=hrel
    by_cases hjk:j<k
    · obtain ⟨x,hx⟩: ∃x,l[j]? =some x:=⟨l[j]'(by rw [←HK.out];exact hjk),List.getElem?_eq_getElem _⟩
      have hxb:U64B x:=HX.out x (List.mem_of_getElem? hx)
      have hcellsAt: ∃b off,a=some ⟨b,off,none⟩∧wr.cell? ⟨b,off+j,none⟩=some (.int .u64 (x:Int)):=by
        obtain ⟨b,off,rfl,hc⟩:=Q.out.elem hx
        have h0:=hc 0 (.int .u64 (x:Int)) rfl
        simp only [Elem.u64s,Nat.add_zero,Nat.mul_one] at h0
        have hlt:=World.block_lt_of_cell? w _ h0
        have hn:=NE.out b rfl
        exact ⟨b,off,rfl,(World.cell?_of_block (a:=⟨b,off+j,none⟩) (hu.block b hlt hn)).trans h0⟩
      obtain ⟨b,off,rfl,d0⟩:=hcellsAt
      have hnext:=freeP_take hx hz
      have hhalt:=freeP_halt hx hz
      have hnd:=HN.out j x hx hz
      obtain ⟨T,hT⟩: ∃T,(freeP S (l.take j)).1=T:=⟨_,rfl⟩
      rw [hT] at hr hgd had hnext hhalt hnd
      have t1:decide ((j:Int)<(k:Int))=true:=decide_eq_true (by omega)
      have t1':decide (j<k)=true:=decide_eq_true hjk
      have j0:(0:Int)≤(j:Int):=by omega
      have j1:(j:Int)<(k:Int):=by omega
      have hml:=hgd.n2
      have hmd:=hgd.made
      have hml2:T.G.length≤1024∧T.used≤1024:=by have h':T.made=T.F.length+T.G.length+T.used:=had;omega
      obtain ⟨hml3,hml4⟩:=hml2
      have HM:=Lib.hid (pg_may wr hr hgd hxb)
      obtain ⟨v,hv⟩: ∃v,givenE T x=v:=⟨_,rfl⟩
      rw [hv] at HM
      have RR:=Lib.hid hr;have GG:=Lib.hid hgd;have AA:=Lib.hid had;have AG:=Lib.hid hag;have UU:=Lib.hid hu;have HNX:=Lib.hid hnext;have HHL:=Lib.hid hhalt;have HV:=Lib.hid hv;have HX2:=Lib.hid hx;have ND:=Lib.hid hnd
      clear hr hgd had hag hu hnext hhalt hv hx hT hz hnd
      by_cases hv0:v=0
      · subst hv0
        by_cases hu0:T.used=0
        · have hp:free1 T x=(T,5):=by unfold free1;rw [HV.out,if_neg (fun y=>y rfl),if_pos hu0]
          have hE:E=(T,5):=by rw [←HE.out,HHL.out (by rw [hp];show (5:Int)≠0;decide),hp]
          subst hE
          have H5:=Lib.hid (fun (w':World) (hb:Below wr.heap.size wr w')=>(RR.out.grew hb).c5)
          rw [hu0] at H5
          clear hp hu0
          go_wp2_with fail
          refine HM.out.mono ?_;rintro e w1 ⟨rfl,hb⟩
          have B1:=Lib.hid hb
          have c5:w1.cell? ⟨pp,5,none⟩=some (.int .i64 0):=H5.out _ hb
          clear hb
          go_wp2
          go_ret
          exact ⟨rfl,L',RR.out.grew B1.out,GG.out,AA.out,AG.out,UU.out.trans ((updFalse_of B1.out).mono (fun _ y=>y.elim))⟩
        · have t2:((T.used:Int)==0)=false:=by rw [beq_eq_false_iff_ne];omega
          have hp:free1 T x=({T with G:=x::T.G,used:=T.used-1},0):=by unfold free1;rw [HV.out,if_neg (fun y=>y rfl),if_neg hu0]
          have hblk:=given_not GG.out HV.out
          obtain ⟨n1,n2⟩:=ND.out HV.out
          obtain ⟨q1,q2,q3⟩:=GG.out.back (T.used-1) hblk n1 n2
          have hh:=GG.out.headG
          have hbig:=GG.out.big
          have HP:=Lib.hid (fun (w':World) (hb:Below wr.heap.size wr w')=>pushG w' (RR.out.grew hb) hbig q2 q3 hh hml3 rfl rfl)
          have Q1:=Lib.hid q1;have Q3:=Lib.hid q3
          have u1:1≤T.used:=by omega
          rw [hp] at HNX
          clear hp hu0 hblk n1 n2 q1 q2 q3 hh hbig
          go_wp2_with fail
          refine HM.out.mono ?_;rintro e w1 ⟨rfl,hb⟩
          have B1:=Lib.hid hb
          have c5:=(RR.out.grew hb).c5
          have c3:=(RR.out.grew hb).c3
          clear hb
          go_wp2_with fail
          go_region_held3 (fun w'=>w'.cell? ⟨pp,3,none⟩=some (.pointer (some ⟨p,0,none⟩))) (first|go_keep|exact c3)
            (first
              |(go_at_call 257;(with_reducible refine (HP.out _ B1.out).mono ?_);rintro e w3 ⟨rfl,hr3,hu3⟩;have R3:=Lib.hid hr3;have U3:=Lib.hid hu3;have c3:w3.cell? ⟨pp,3,none⟩=some (.pointer (some ⟨p,0,none⟩)):=hr3.c3;clear hr3 hu3))
          clear c5
          have c5:=R3.out.c5
          have f5:=R3.out.fz 5
          have wu:IntKind.i64.wrap ((T.used:Int)-1)=(T.used:Int)-1:=IntWalk.i64_in _ ⟨by omega,by omega⟩
          have R4:=Lib.hid (R3.out.set (S':={T with G:=x::T.G,used:=T.used-1}) 5 (.int .i64 ((T.used-1:Nat):Int)) rfl)
          clear c3
          go_wp2
          go_roundw
          case rel=>
            have e:(((T.used-1:Nat):Int))=(T.used:Int)-1:=by omega
            have r4:=R4.out
            rw [e] at r4
            have had:=AA.out
            refine ⟨j+1,_,by omega,by go_num,by rw [HNX.out],by rw [HNX.out];exact r4,by rw [HNX.out];exact Q1.out, ?_,(AG.out.trans (Agree.put Q3.out)).mono ?_,((UU.out.trans ((updFalse_of B1.out).mono (fun _ y=>y.elim))).trans U3.out).trans ((upd_set _).mono fun b hb=> .inl hb)⟩
            · rw [HNX.out]
              have h':T.made=T.F.length+T.G.length+T.used:=had
              show T.made=T.F.length+(x::T.G).length+(T.used-1)
              simp only [List.length_cons];omega
            · intro y hy
              rcases List.mem_append.1 hy with hy|hy
              · exact hy
              · rw [List.mem_singleton.1 hy];exact List.mem_of_getElem? HX2.out
          case measure=>simp [intOf];omega
      · have hp:free1 T x=(T,v):=by unfold free1;rw [HV.out,if_pos hv0]
        have hE:E=(T,v):=by rw [←HE.out,HHL.out (by rw [hp];exact hv0),hp]
        subst hE
        have t2:(v !=0)=true:=by rw [bne_iff_ne];exact hv0
        clear hp hv0
        go_wp2_with fail
        refine HM.out.mono ?_;rintro e w1 ⟨rfl,hb⟩
        have B1:=Lib.hid hb
        clear hb
        go_wp2
        go_ret
        exact ⟨rfl,L',RR.out.grew B1.out,GG.out,AA.out,AG.out,UU.out.trans ((updFalse_of B1.out).mono (fun _ y=>y.elim))⟩
    · obtain rfl:j=k:=by omega
      have t1:decide ((j:Int)<(j:Int))=false:=decide_eq_false (by omega)
      have htk:l.take j=l:=by rw [HK.out,List.take_length]
      rw [htk,HE.out] at hz hr hgd had
      have RR:=Lib.hid hr;have GG:=Lib.hid hgd;have AA:=Lib.hid had;have AG:=Lib.hid hag;have UU:=Lib.hid hu;have HZ:=Lib.hid hz
      clear hr hgd had hag hu hz htk
      go_wp2
      go_ret
      rw [HZ.out]
      exact ⟨rfl,L',RR.out,GG.out,AA.out,AG.out,UU.out⟩
end Go.Proofs.YtippfeplogkaiaaGreatDoor
namespace Go.Proofs.YtippfeplogkaiaaGreatDoor
open Go.RowKit ListMath PageMath GeoMath
set_option linter.unusedVariables false
theorem Upd.onto {S:Nat→Prop} {w w' w2:World} (h:Upd S w w') (k:Upd (fun b=>S b∨w.heap.size≤b) w' w2):Upd S w w2:=
  ⟨k.os.trans h.os,k.tape.trans h.tape,k.output.trans h.output,Nat.le_trans h.size k.size,fun b hb hs=>(k.block b (Nat.lt_of_lt_of_le hb h.size) (fun x=>by rcases x with x|x;exact hs x;omega)).trans (h.block b hb hs)⟩
theorem updOO {w w':World} {S:Nat→Prop} (hb:Below w.heap.size w w'):Upd S w w':=(updFalse_of hb).mono fun _ x=>x.elim
theorem chain_new (w:World) {p g h:Nat} {L:List Nat} {n:Int} (hm:IsMem w p g L) (hh:h≤18446744073709551615) (hn:0≤n∧n≤1000000000) (V:Value) (hV:Value.tuple #[.agg (if (chainN L h n).isSome then lsC h (((chainN L h n).getD []).length:Int) else lsC 0 0), .int .i64 (if (chainN L h n).isSome then 0 else 3)]=V):
    (Calls Tryz.prog 276 #[.pointer (some ⟨p,0,none⟩), .int .u64 (h:Int), .int .i64 n] w.drew fun e w'=>e= .returned V∧Below w.heap.size w w')∧
    (Calls Tryz.prog 276 #[.pointer (some ⟨p,0,none⟩), .int .u64 (h:Int), .int .i64 n] (w.alloc (.cells #[.int .u64 0, .int .i64 0] 254)).drew fun e w'=>e= .returned V∧Blk w' w.heap.size 254 #[.int .u64 0, .int .i64 0]∧Below w.heap.size w w'):=by
  subst hV
  have b1:Below w.heap.size w w.drew:=(Below.refl _ w).drew
  have b2:Below w.heap.size w (w.alloc (.cells #[.int .u64 0, .int .i64 0] 254)).drew:=((Below.refl _ w).alloc (Nat.le_refl _) _).drew
  constructor
  · refine (chain_any p g L h n w.drew (hm.upd (updFalse_of b1) id id) hh (by omega) (by omega)).mono ?_
    rintro e w' ⟨rfl,hb⟩
    exact ⟨rfl,b1.trans hb⟩
  · refine (chain_any p g L h n _ (hm.upd (updFalse_of b2) id id) hh (by omega) (by omega)).mono ?_
    rintro e w' ⟨rfl,hb⟩
    exact ⟨rfl,(Blk.new w _ _).drew.grew hb,below_then b2 b2.size hb⟩
theorem gath_rows {S:PG} {L P:List Nat} (hc:Chain L S.cw P) (hP:P≠ []):(P++S.G).headD 0=S.cw:=by
  rw [chain_head hc]
  cases P with
  |nil=>exact absurd rfl hP
  |cons a t=>rfl
theorem RPg.joined {w w':World} {pp p g b:Nat} {L P:List Nat} {S:PG} {M:List Nat} (h:RPg w pp p g L S) (hm:IsMem w' p g M) {x:Nat} (l:LCell w' pp 8 x ((S.G.length:Int)+(P.length:Int))) (W:Wrt (fun x=>x=g) (fun x i=>LPl pp 8 x i∨LPl b 0 x i) w w') (hb:b≠pp) (hc:(P++S.G).headD 0=x):RPg w' pp p g M {S with G:=P++S.G}:=by
  have W2:Wrt (fun x=>x=g∨x=b) (LPl pp 8) w w':=W.mono (fun x hx=> .inl hx) (fun x i hx=>by
    rcases hx with hx|hx
    · exact .inr hx
    · exact .inl (.inr hx.1))
  have k:=h.B.ofList W2 (fun x=>by rcases x with x|x;exact h.ng x;exact hb x.symm) l
  rw [←hc,show (S.G.length:Int)+(P.length:Int)=((P++S.G).length:Int) by rw [List.length_append];omega] at k
  exact ⟨k,hm,h.np,h.ng⟩
set_option maxHeartbeats 4000000 in
set_option maxRecDepth 100000 in
theorem pg_gather (w:World) {pp p g:Nat} {L P:List Nat} {S:PG} (h:RPg w pp p g L S) (hg:GoodP L S) (hadd:AddP S) (hcw:S.cw≤18446744073709551615) (hP:chainN L S.cw (S.n:Int)=some P) (hu:P.length≤S.used):
    Calls Tryz.prog 252 #[.pointer (some ⟨pp,0,none⟩)] w fun e w'=>e= .returned (.tuple #[.int .i64 (P.length:Int), .int .i64 0])∧RPg w' pp p g (if P= [] then L else MemMath.put8 L (lastD P) (S.G.headD 0)) (gathP S P)∧Upd (OO pp p g) w w':=by
  have hc:=(chain_rowF hP).1
  have hPl:P.length≤L.length:=by have:=(chain_rowF hP).2;omega
  have hn2:=hg.n2
  have hmd:=hg.made
  have hbig:=hg.big
  have had:S.made=S.F.length+S.G.length+S.used:=hadd
  have hml:S.G.length≤1024∧S.used≤1024:=by omega
  obtain ⟨hml1,hml2⟩:=hml
  have hhG:=hg.headG
  have HS:=Lib.hid (cellw_swap w h.post 0)
  have R0:=Lib.hid h
  have c10:=h.c10
  have hcell:=fun (w':World) (k1:CC w' pp 10 0 (tagS (S.ct%18446744073709551616)) (wrap64 (wrap64 (S.ca:Int)+1))) (k2:Wrt (fun _=>False) (CPl pp 10) w w')=>(h.ofCell (x:=0) (t:=S.ct+1) (a:=S.ca+1) (by rwa [tagS_mod] at k1) k2 (wrap_ask _):RPg w' pp p g L (S.wrote 0))
  have HCELL:=Lib.hid hcell
  by_cases h0:S.cw=0
  · have hPn:P= []:=by
      unfold chainN at hP
      rw [h0,rowF_zero] at hP
      exact (Option.some.inj hP).symm
    subst hPn
    rw [h0] at HS
    rw [if_pos rfl]
    clear h hg hadd hc hPl hu hP h0 had hcell
    go_enter Tryz.func252,Tryz.ntmps252
    go_wp2_with fail
    refine HS.out.mono ?_;rintro e w1 ⟨rfl,k1,k2⟩
    have K1:=Lib.hid (HCELL.out _ k1 k2);have U1:=Lib.hid (wrtOOc (p:=p) (g:=g) k2)
    clear k1 k2 c10
    go_wp2
    go_ret2
    exact ⟨rfl,K1.out,U1.out⟩
  · have hPn:P≠ []:=by rintro rfl;exact h0 hc
    rw [if_neg hPn]
    have t0:((S.cw:Int)==0)=false:=by rw [beq_eq_false_iff_ne];omega
    have hV:Value.tuple #[.agg (if (chainN L S.cw (S.n:Int)).isSome then lsC S.cw (((chainN L S.cw (S.n:Int)).getD []).length:Int) else lsC 0 0), .int .i64 (if (chainN L S.cw (S.n:Int)).isSome then 0 else 3)]=Value.tuple #[.agg #[.int .u64 (S.cw:Int), .int .i64 (P.length:Int)], .int .i64 0]:=by rw [hP];rfl
    have HCH:=Lib.hid (fun (w':World) (hm:IsMem w' p g L)=>chain_new w' hm hcw ⟨by omega,by omega⟩ _ hV)
    have hal:allN ⟨L,S.cw,(P.length:Int)⟩=some P:=allN_chain hc rfl hPl
    have hj:=joinN_cons (lh:=S.G.headD 0) (ln:=(S.G.length:Int)) hal hPn
    have HG:=Lib.hid (gath_rows hc hPn)
    obtain ⟨M,hM⟩: ∃M,MemMath.put8 L (lastD P) (S.G.headD 0)=M:=⟨_,rfl⟩
    obtain ⟨m,hm⟩: ∃m,P.length=m:=⟨_,rfl⟩
    rw [hM] at hj
    rw [hm] at hu hal hj HCH hPl
    have HJ:=Lib.hid (fun (w':World) (b:Nat) (hI:IsMem w' p g L) (l:LCell w' pp 8 (S.G.headD 0) (S.G.length:Int)) (k:LCell w' b 0 S.cw (m:Int)) (h1:pp≠p∧b≠p) (h2:pp≠g∧b≠g) (h3:pp≠b)=>join_any w' hI l k h1 h2 (.inl h3) (by show S.G.headD 0≤_;omega) hcw ⟨by omega,by omega⟩ ⟨by omega,by omega⟩)
    unfold joinG at HJ
    rw [hj] at HJ
    simp only [Option.isSome_some,if_true,Option.getD_some] at HJ
    have HPM:=Lib.hid hm
    rw [hM,hm]
    have tN:decide ((S.used:Int)<(m:Int))=false:=decide_eq_false (by omega)
    have tN':decide (S.used<m)=false:=decide_eq_false (by omega)
    clear h hg hadd hc hPl hP h0 had hcell hV hal hj hM hm hPn hhG hbig
    go_enter Tryz.func252,Tryz.ntmps252
    go_wp2_with fail
    refine HS.out.mono ?_;rintro e WA ⟨rfl,k1,k2⟩
    have R1:=Lib.hid (HCELL.out _ k1 k2);have U1:=Lib.hid (wrtOOc (p:=p) (g:=g) k2)
    have hppl:=(HCELL.out _ k1 k2).lt
    have hpl:=(HCELL.out _ k1 k2).mem.head.lt
    have hgl:=(HCELL.out _ k1 k2).mem.row.lt
    have hww:w.heap.size≤WA.heap.size:=U1.out.size
    clear k1 k2 c10
    have hne:WA.heap.size≠pp:=by omega
    have hne2:pp≠WA.heap.size:=by omega
    have c3:=R1.out.c3
    have c2:WA.cell? ⟨pp,2,none⟩=some (.int .i64 (S.n:Int)):=R1.out.c2
    have HC1:=Lib.hid (HCH.out _ R1.out.mem).1
    have HC2:=Lib.hid (HCH.out _ R1.out.mem).2
    go_wp2_with fail
    go_region_held3 (fun w'=>w'.cell? ⟨pp,3,none⟩=some (.pointer (some ⟨p,0,none⟩))∧w'.cell? ⟨pp,2,none⟩=some (.int .i64 (S.n:Int))) (first|go_keep|exact ⟨c3,c2⟩)
      (first
        |(go_at_call 276;(with_reducible refine HC1.out.mono ?_);rintro e w5 ⟨rfl,hb⟩;have B5:=Lib.hid hb;have c3:=(R1.out.grew hb).c3;have c2:=(R1.out.grew hb).c2;clear hb)
        |(go_at_call 276;(with_reducible refine HC2.out.mono ?_);rintro e w5 ⟨rfl,hk,hb⟩;have B5:=Lib.hid hb;have NB:=Lib.hid hk;have a0:w5.cell? ⟨WA.heap.size,0,none⟩=some (.int .u64 0):=hk.cell 0;have a1:w5.cell? ⟨WA.heap.size,1,none⟩=some (.int .i64 0):=hk.cell 1;have g0:w5.frozen? ⟨WA.heap.size,0,none⟩=false:=hk.frozen 0;have g1:w5.frozen? ⟨WA.heap.size,1,none⟩=false:=hk.frozen 1;have c3:=(R1.out.grew hb).c3;have c2:=(R1.out.grew hb).c2;clear hb hk))
    · have nb:=Blk.new w5 254 #[.int .u64 (S.cw:Int), .int .i64 (m:Int)]
      have hB:Below WA.heap.size WA (w5.alloc (.cells #[.int .u64 (S.cw:Int), .int .i64 (m:Int)] 254)):=B5.out.alloc B5.out.size _
      have hbW:WA.heap.size≤w5.heap.size:=B5.out.size
      obtain ⟨b,hb⟩: ∃b,w5.heap.size=b:=⟨_,rfl⟩
      obtain ⟨w6,hw6⟩: ∃x,w5.alloc (.cells #[.int .u64 (S.cw:Int), .int .i64 (m:Int)] 254)=x:=⟨_,rfl⟩
      rw [hb] at nb hbW⊢
      rw [hw6] at nb hB⊢
      have HB:=Lib.hid hB;have NB6:=Lib.hid nb
      rename_i hHeld1
      clear nb hb hw6 hB c3 c2 B5 hHeld1
      have R6:=Lib.hid (R1.out.grew HB.out)
      have c5:w6.cell? ⟨pp,5,none⟩=some (.int .i64 (S.used:Int)):=R6.out.c5
      have c3:=R6.out.c3
      have y1:w6.cell? ⟨b,1,none⟩=some (.int .i64 (m:Int)):=NB6.out.cell 1
      have hbp:b≠p:=by omega
      have hbg:b≠g:=by omega
      have hbpp:b≠pp:=by omega
      have NE:=Lib.hid (And.intro hbp (And.intro hbg hbpp))
      clear hbp hbg hbpp
      go_wp2_with fail
      go_quiet (fail)
      go_wp2_with fail
      have R7:=Lib.hid (show RPg (w6.drewN nq) pp p g L (S.wrote 0) from R6.out.grew (below_drewN (Below.refl _ _) _))
      have NB7:=Lib.hid (show Blk (w6.drewN nq) b 254 #[.int .u64 (S.cw:Int), .int .i64 (m:Int)] from NB6.out.grew (below_drewN (Below.refl _ _) _))
      have HB7:=Lib.hid (show Below WA.heap.size WA (w6.drewN nq) from below_then HB.out HB.out.size (below_drewN (Below.refl _ _) _))
      generalize w6.drewN nq=w7 at R7 NB7 HB7⊢
      clear c5 c3 y1
      have c3:=R7.out.c3
      have HJ7:=Lib.hid (HJ.out w7.drew b (R7.out.drew).mem (R7.out.drew).loc.lst ⟨_,_,NB7.out.drew,rfl,rfl⟩ ⟨R7.out.np,NE.out.1⟩ ⟨R7.out.ng,NE.out.2.1⟩ (fun e=>NE.out.2.2 e.symm))
      have HR8:=Lib.hid (fun (w':World) (q1:IsMem w' p g M) (q2:LCell w' pp 8 S.cw ((S.G.length:Int)+(m:Int))) (q4:Wrt (fun x=>x=g) (fun x i=>LPl pp 8 x i∨LPl b 0 x i) w7.drew w')=>(R7.out.drew.joined (P:=P) (x:=S.cw) q1 (by rw [HPM.out];exact q2) q4 NE.out.2.2 HG.out:RPg w' pp p g M {S.wrote 0 with G:=P++S.G}))
      go_region_held3 (fun w'=>w'.cell? ⟨pp,3,none⟩=some (.pointer (some ⟨p,0,none⟩))) (first|go_keep|exact c3)
        (first
          |(go_at_call 277;(with_reducible refine HJ7.out.mono ?_);rintro e w8 ⟨rfl,q1,q2,q3,q4⟩;have R8:=Lib.hid (HR8.out w8 q1 q2 q4);have U8:=Lib.hid q4.upd;have c3:w8.cell? ⟨pp,3,none⟩=some (.pointer (some ⟨p,0,none⟩)):=R8.out.c3;clear q1 q2 q3 q4))
      clear c3
      have c5:w8.cell? ⟨pp,5,none⟩=some (.int .i64 (S.used:Int)):=R8.out.c5
      have f5:=R8.out.fz 5
      have wu:IntKind.i64.wrap ((S.used:Int)-(m:Int))=(S.used:Int)-(m:Int):=IntWalk.i64_in _ ⟨by omega,by omega⟩
      have R9:=Lib.hid (R8.out.set (S':={({S.wrote 0 with G:=P++S.G}:PG) with used:=S.used-m}) 5 (.int .i64 ((S.used-m:Nat):Int)) rfl)
      go_wp2
      go_ret2
      have e:(((S.used-m:Nat):Int))=(S.used:Int)-(m:Int):=by omega
      have r9:=R9.out
      rw [e] at r9
      refine ⟨rfl, ?_, ?_⟩
      · unfold gathP
        rw [HPM.out]
        exact r9
      · refine (Upd.onto (U1.out.trans (updOO HB7.out)) ?_).trans ((upd_set _).mono fun x hx=> .inl hx)
        refine Upd.trans (updOO (Below.refl _ _).drew) (U8.out.mono fun x hx=> ?_)
        rcases hx with hx|⟨i,hx|hx⟩
        · exact .inl (.inr (.inr hx))
        · exact .inl (.inl hx.1)
        · exact .inr (by have:=hx.1;omega)
    · have nb:Blk ((w5.setCell ⟨WA.heap.size,0,none⟩ (.int .u64 (S.cw:Int))).setCell ⟨WA.heap.size,1,none⟩ (.int .i64 (m:Int))) WA.heap.size 254 #[.int .u64 (S.cw:Int), .int .i64 (m:Int)]:=(NB.out.put 0 (.int .u64 (S.cw:Int))).put 1 (.int .i64 (m:Int))
      have hB:Below WA.heap.size WA ((w5.setCell ⟨WA.heap.size,0,none⟩ (.int .u64 (S.cw:Int))).setCell ⟨WA.heap.size,1,none⟩ (.int .i64 (m:Int))):=(B5.out.setCell (p:=⟨WA.heap.size,0,none⟩) (Nat.le_refl _) _).setCell (p:=⟨WA.heap.size,1,none⟩) (Nat.le_refl _) _
      have hbW:WA.heap.size≤WA.heap.size:=Nat.le_refl _
      obtain ⟨w6,hw6⟩: ∃x,(w5.setCell ⟨WA.heap.size,0,none⟩ (.int .u64 (S.cw:Int))).setCell ⟨WA.heap.size,1,none⟩ (.int .i64 (m:Int))=x:=⟨_,rfl⟩
      rw [hw6] at nb hB⊢
      obtain ⟨b,hb⟩: ∃b,WA.heap.size=b:=⟨_,rfl⟩
      rename_i hHeld1
      clear hHeld1 a0 a1 g0 g1 NB hw6 c3 c2 B5
      have HB:=Lib.hid hB
      clear hB
      rw [hb] at nb⊢
      have NB6:=Lib.hid nb
      replace hbW:WA.heap.size≤b:=Nat.le_of_eq hb
      clear nb hb
      have R6:=Lib.hid (R1.out.grew HB.out)
      have c5:w6.cell? ⟨pp,5,none⟩=some (.int .i64 (S.used:Int)):=R6.out.c5
      have c3:=R6.out.c3
      have y1:w6.cell? ⟨b,1,none⟩=some (.int .i64 (m:Int)):=NB6.out.cell 1
      have hbp:b≠p:=by omega
      have hbg:b≠g:=by omega
      have hbpp:b≠pp:=by omega
      have NE:=Lib.hid (And.intro hbp (And.intro hbg hbpp))
      clear hbp hbg hbpp
      go_wp2_with fail
      go_quiet (fail)
      go_wp2_with fail
      have R7:=Lib.hid (show RPg (w6.drewN nq) pp p g L (S.wrote 0) from R6.out.grew (below_drewN (Below.refl _ _) _))
      have NB7:=Lib.hid (show Blk (w6.drewN nq) b 254 #[.int .u64 (S.cw:Int), .int .i64 (m:Int)] from NB6.out.grew (below_drewN (Below.refl _ _) _))
      have HB7:=Lib.hid (show Below WA.heap.size WA (w6.drewN nq) from below_then HB.out HB.out.size (below_drewN (Below.refl _ _) _))
      generalize w6.drewN nq=w7 at R7 NB7 HB7⊢
      clear c5 c3 y1
      have c3:=R7.out.c3
      have HJ7:=Lib.hid (HJ.out w7.drew b (R7.out.drew).mem (R7.out.drew).loc.lst ⟨_,_,NB7.out.drew,rfl,rfl⟩ ⟨R7.out.np,NE.out.1⟩ ⟨R7.out.ng,NE.out.2.1⟩ (fun e=>NE.out.2.2 e.symm))
      have HR8:=Lib.hid (fun (w':World) (q1:IsMem w' p g M) (q2:LCell w' pp 8 S.cw ((S.G.length:Int)+(m:Int))) (q4:Wrt (fun x=>x=g) (fun x i=>LPl pp 8 x i∨LPl b 0 x i) w7.drew w')=>(R7.out.drew.joined (P:=P) (x:=S.cw) q1 (by rw [HPM.out];exact q2) q4 NE.out.2.2 HG.out:RPg w' pp p g M {S.wrote 0 with G:=P++S.G}))
      go_region_held3 (fun w'=>w'.cell? ⟨pp,3,none⟩=some (.pointer (some ⟨p,0,none⟩))) (first|go_keep|exact c3)
        (first
          |(go_at_call 277;(with_reducible refine HJ7.out.mono ?_);rintro e w8 ⟨rfl,q1,q2,q3,q4⟩;have R8:=Lib.hid (HR8.out w8 q1 q2 q4);have U8:=Lib.hid q4.upd;have c3:w8.cell? ⟨pp,3,none⟩=some (.pointer (some ⟨p,0,none⟩)):=R8.out.c3;clear q1 q2 q3 q4))
      clear c3
      have c5:w8.cell? ⟨pp,5,none⟩=some (.int .i64 (S.used:Int)):=R8.out.c5
      have f5:=R8.out.fz 5
      have wu:IntKind.i64.wrap ((S.used:Int)-(m:Int))=(S.used:Int)-(m:Int):=IntWalk.i64_in _ ⟨by omega,by omega⟩
      have R9:=Lib.hid (R8.out.set (S':={({S.wrote 0 with G:=P++S.G}:PG) with used:=S.used-m}) 5 (.int .i64 ((S.used-m:Nat):Int)) rfl)
      go_wp2
      go_ret2
      have e:(((S.used-m:Nat):Int))=(S.used:Int)-(m:Int):=by omega
      have r9:=R9.out
      rw [e] at r9
      refine ⟨rfl, ?_, ?_⟩
      · unfold gathP
        rw [HPM.out]
        exact r9
      · refine (Upd.onto (U1.out.trans (updOO HB7.out)) ?_).trans ((upd_set _).mono fun x hx=> .inl hx)
        refine Upd.trans (updOO (Below.refl _ _).drew) (U8.out.mono fun x hx=> ?_)
        rcases hx with hx|⟨i,hx|hx⟩
        · exact .inl (.inr (.inr hx))
        · exact .inl (.inl hx.1)
        · exact .inr (by have:=hx.1;omega)
end Go.Proofs.YtippfeplogkaiaaGreatDoor
namespace Go.Proofs.YtippfeplogkaiaaGreatDoor
open Go.RowKit ListMath PageMath GeoMath
set_option linter.unusedVariables false
end Go.Proofs.YtippfeplogkaiaaGreatDoor
namespace Go.Proofs.YtippfeplogkaiaaGreatDoor
open Go.RowKit ListMath PageMath GeoMath
set_option linter.unusedVariables false
set_option maxHeartbeats 2000000 in
theorem pg_new (w:World) {p g:Nat} {L:List Nat} {f s n:Nat} (hm:IsMem w p g L) (hg:GoodP L (newPG f s n)):
    Calls Tryz.prog 290 #[.pointer (some ⟨p,0,none⟩),runV f s (n:Int)] w fun e w'=> ∃pp,e= .returned (.tuple #[.pointer (some ⟨pp,0,none⟩), .int .i64 0])∧RPg w' pp p g L (newPG f s n)∧w.heap.size≤pp∧Below w.heap.size w w':=by
  have hz:=hg.sizes
  have h1:f+16≤1048576∧s≤1048576∧n≤L.length:=hz
  have h2:0<f:=hg.f0
  have h3:16≤s:=hg.s16
  have h4:1≤n:=hg.n1
  have h5:n≤1024:=hg.n2
  have h6:f+n*s≤L.length:=hg.fit
  have hbig:=hg.big
  have hmay:mayN f s (n:Int)=true:=hg.may
  have hE:endN f s (n:Int)=f+n*s:=by unfold endN;rw [if_pos hmay,Int.toNat_natCast]
  have hB:blockE f s (n:Int) 0=0:=by unfold blockE;rw [if_pos hmay,if_pos ⟨Int.le_refl 0,by omega⟩]
  have HB:=Lib.hid (fun w=>code_block w f s (n:Int) 0 (by omega) (by omega) ⟨by omega,by omega⟩ ⟨by omega,by omega⟩)
  have HE:=Lib.hid (fun w=>code_end w f s (n:Int) (by omega) (by omega) ⟨by omega,by omega⟩)
  rw [hE] at HE
  rw [hB] at HB
  have HZ:=Lib.hid (fun (w':World) (h:IsMem w' p g L)=>size_any h)
  obtain ⟨E,hEE⟩: ∃E,f+n*s=E:=⟨_,rfl⟩
  obtain ⟨N,hN⟩: ∃N,L.length=N:=⟨_,rfl⟩
  obtain ⟨b,hbN⟩: ∃b,blockN f s (n:Int) 0=b:=⟨_,rfl⟩
  rw [hEE] at HE h6
  rw [hN] at HZ h6
  rw [hbN] at HB
  have t1:((f:Int)==0)=false:=by rw [beq_eq_false_iff_ne];omega
  have t2:decide ((s:Int)<16)=false:=decide_eq_false (by omega)
  have t3:decide ((N:Int)<(E:Int))=false:=decide_eq_false (by omega)
  have t3':decide (N<E)=false:=decide_eq_false (by omega)
  have M0:=Lib.hid hm
  have hpl:=hm.head.lt
  have hgl:=hm.row.lt
  clear hm hg hz h1 h2 h3 h4 h5 h6 hbig hmay hE hB hEE hN hbN
  unfold runV at HB HE⊢
  go_enter Tryz.func290,Tryz.ntmps290
  go_wp2_with fail
  generalize hW:w.alloc (.cells #[.int .u64 (f:Int), .int .u64 (s:Int), .int .i64 (n:Int)] 183)=W
  have ST:=Lib.hid (run_boxed w 183 f s (n:Int) hW)
  obtain ⟨bb,hbb⟩: ∃bb,w.heap.size=bb:=⟨_,rfl⟩
  rw [hbb] at ST⊢
  clear hW
  refine (HB.out _).mono ?_;rintro e w1 ⟨rfl,hb⟩
  have ST:=Lib.hid (ST.out.grew hb)
  have hc:=ST.out.cells
  have d0:w1.cell? ⟨bb,0,none⟩=some (.int .u64 (f:Int)):=hc.1
  have d1:w1.cell? ⟨bb,1,none⟩=some (.int .u64 (s:Int)):=hc.2.1
  have d2:w1.cell? ⟨bb,2,none⟩=some (.int .i64 (n:Int)):=hc.2.2
  clear hb hc
  go_wp2_with fail
  refine (HE.out _).mono ?_;rintro e w2 ⟨rfl,hb⟩
  have ST:=Lib.hid (ST.out.grew hb)
  have hc:=ST.out.cells
  clear d0 d1 d2
  have d0:w2.cell? ⟨bb,0,none⟩=some (.int .u64 (f:Int)):=hc.1
  have d1:w2.cell? ⟨bb,1,none⟩=some (.int .u64 (s:Int)):=hc.2.1
  have d2:w2.cell? ⟨bb,2,none⟩=some (.int .i64 (n:Int)):=hc.2.2
  clear hb hc
  go_wp2_with fail
  refine (HZ.out _ (M0.out.upd (updFalse_of ST.out.below) id id)).mono ?_;rintro e w3 ⟨rfl,rfl⟩
  go_wp2
  go_ret2
  have hs:=ST.out.below.size
  have hA: #[.int .u64 (f:Int), .int .u64 (s:Int), .int .i64 (n:Int), .pointer (some ⟨p,0,none⟩), .int .i64 0, .int .i64 0, .int .u64 0, .int .i64 0, .int .u64 0, .int .i64 0, .int .u64 0, .int .u64 0, .int .i64 0]=pgA p (newPG f s n):=by
    simp [pgA,newPG,wrap64]
  rw [hA]
  exact ⟨w2.heap.size,rfl,⟨Blk.new w2 _ _,(M0.out.upd (updFalse_of ST.out.below) id id).upd (updFalse_of ((Below.refl _ w2).alloc (Nat.le_refl _) _)) id id,by omega,by omega⟩,hs,ST.out.below.alloc hs _⟩
end Go.Proofs.YtippfeplogkaiaaGreatDoor
namespace Go.Proofs.YtippfeplogkaiaaGreatDoor
open Go.RowKit ListMath PageMath GeoMath
set_option linter.unusedVariables false
def PgS (w:World) (pp p g:Nat) (O:Nat→Prop) (c:Addr) (L:List Nat) (S:PG):Prop:=RPg w pp p g L S∧GoodP L S∧AddP S∧S.cw≤18446744073709551615∧c=⟨pp,10,none⟩∧O=OO pp p g
theorem refill_cw (S:PG):(refill S).cw=S.cw:=by unfold refill;split<;>first|rfl|(split<;>rfl)
theorem allocP_cw (S:PG):(allocP S).1.cw=S.cw:=by
  cases h:(refill S).F with
  |nil=>rw [allocP_nil h]
  |cons a t=>rw [allocP_cons h];exact refill_cw S
theorem free1_cw (S:PG) (a:Nat):(free1 S a).1.cw=S.cw:=by
  unfold free1;split
  · rfl
  · split<;>rfl
def BadR (w:World) (i:Value) (wr:World):Prop:=i= .int .i64 0∧wr=w
set_option maxHeartbeats 1000000 in
theorem pg_free_bad (w:World) {pp p g:Nat} {L:List Nat} {S:PG} (h:RPg w pp p g L S) (hg:GoodP L S) {a:Option Addr} {cap x:Nat} (hq:Seq Elem.u64s w (.slice a 1 cap) [x]) (hx:U64B x) (hv:givenE S x≠0):
    Calls Tryz.prog 230 #[.pointer (some ⟨pp,0,none⟩), .slice a 1 cap] w fun e w'=>e= .returned (.int .i64 (givenE S x))∧Below w.heap.size w w':=by
  obtain ⟨b,off,rfl,hc⟩:=hq.elem (show [x][0]? =some x from rfl)
  have d0:w.cell? ⟨b,off,none⟩=some (.int .u64 (x:Int)):=by
    have h0:=hc 0 (.int .u64 (x:Int)) rfl
    simpa [Elem.u64s] using h0
  have HM:=Lib.hid (pg_may w h hg hx)
  obtain ⟨v,hvv⟩: ∃v,givenE S x=v:=⟨_,rfl⟩
  rw [hvv] at HM hv⊢
  have t2:(v !=0)=true:=by rw [bne_iff_ne];exact hv
  clear h hg hq hx hv hc hvv
  go_enter Tryz.func230,Tryz.ntmps230
  go_wp2
  go_loopw [13] (fun i wr=>BadR w i wr) (fun _ _=>0)
  case atStart=>exact ⟨rfl,rfl⟩
  case round=>
    obtain ⟨rfl,rfl⟩:=hrel
    go_wp2_with fail
    refine HM.out.mono ?_;rintro e w1 ⟨rfl,hb⟩
    have B1:=Lib.hid hb
    clear hb
    go_wp2
    go_ret
    exact ⟨rfl,B1.out⟩
theorem gathP_add {S:PG} {P:List Nat} (h:AddP S) (hu:P.length≤S.used):AddP (gathP S P):=by
  have h':S.made=S.F.length+S.G.length+S.used:=h
  show S.made=S.F.length+(P++S.G).length+(S.used-P.length)
  rw [List.length_append];omega
end Go.Proofs.YtippfeplogkaiaaGreatDoor
