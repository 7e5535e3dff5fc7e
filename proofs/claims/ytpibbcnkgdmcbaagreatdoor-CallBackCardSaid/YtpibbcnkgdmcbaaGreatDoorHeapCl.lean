/- What the laws of layer 12 need of the program's heaps (to be proved of the code that landed): what a heap holds of its own is told by a predicate of the landed code's own; its segments, the arena and the memory are beside it. -/
import Derived.Test.YtpibbcnkgdmcbaaGreatDoorShop
import Derived.Test.YtpibbcnkgdmcbaaGreatDoorQueueCl
import Derived.Test.YtpibbcnkgdmcbaaGreatDoorUses12
set_option linter.unusedVariables false
namespace Go.Proofs.YtpibbcnkgdmcbaaGreatDoor
open Go.RowKit aC aF aG aI au aD aB aA
def Gj (X:SG):Nat×List (Nat×Nat×Int×Nat×Nat):=(X.pl,X.L.map fun o=>(o.op,o.pp,o.cls,o.lo,o.wd))
abbrev HpT:=World→(h:Nat)→(Nat→Prop)→(id p q:Nat)→List (Nat×SG)→(Nat→QR)→Prop
def gM (B:List SB):List (Nat×SG):=B.map fun b=>(b.sp,b.X)
def aN (B:List SB) (Q:Nat→QR):HS:=⟨B.map fun b=>b.X,Q⟩
structure Hz {w0:World} (C:fH w0) (Hp:HpT) (w:World) (h:Nat) (O:Nat→Prop) (id p g q:Nat) (own:Nat→Prop) (L:List Nat) (A:St) (B R:List SB) (Q:Nat→QR):Prop where
 hp:Hp w h O id p q (gM B) Q
 env:Env C w p g q own L A (B++R)
 good:aO (aN B Q)
 ap: ∀k,O k→ ¬EO p g own (B++R) k
 lo: ∀k,O k∨EO p g own (B++R) k→w0.heap.size≤k
def HO (p g:Nat) (own O:Nat→Prop) (B:List SB) (k:Nat):Prop:=O k∨EO p g own B k
def Turned {w0:World} (C:fH w0) (Hp:HpT) (w:World) (h:Nat) (O:Nat→Prop) (id p g q:Nat) (own:Nat→Prop) (L:List Nat) (B R:List SB) (w':World) (H':HS) (A':St) (M:List Nat→Prop):Prop:=
 ∃O' own' L' B',Hz C Hp w' h O' id p g q own' L' A' B' R H'.Q∧(B'.map fun b=>b.X)=H'.B∧L'.length=L.length∧M L'∧(∀k,HO p g own' O' B' k→HO p g own O B k∨w.heap.size≤k)∧aH (HO p g own O B) w w'
structure kW (w0:World) (C:fH w0) where
 Hp:HpT
 Gi: ∀{w h O id p q S S' Q},Hp w h O id p q S Q→(S.map fun b=>(b.1,Gj b.2))=(S'.map fun b=>(b.1,Gj b.2))→Hp w h O id p q S' Q
 upd: ∀{w h O id p q S Q} {w':World} {T:Nat→Prop},Hp w h O id p q S Q→aH T w w'→(∀k,T k→ ¬O k)→Hp w' h O id p q S Q
 num: ∀{w h O id p q S Q},Hp w h O id p q S Q→O h∧(∀k,O k→k<w.heap.size)∧1≤id∧id≤18446744073709551615
 new: ∀w,Below w0.heap.size w0 w→ ∀{p q id:Nat},1≤id→id≤18446744073709551615→
  Calls Tryz.prog 17 #[.pointer (some ⟨p,0,none⟩), .pointer (some ⟨q,0,none⟩), .int .u64 (id:Int)] w fun e w'=> ∃h O,e= .returned (.tuple #[.pointer (some ⟨h,0,none⟩), .int .i64 0])∧Hp w' h O id p q [] (fun _=>q0)∧(∀k,O k→w.heap.size≤k)∧Below w.heap.size w w'
 Qy: ∀w,Below w0.heap.size w0 w→Calls Tryz.prog 86 #[.pointer none] w fun e w'=>e= .returned (.int .i64 1)∧Below w.heap.size w w'
 local': ∀w,Below w0.heap.size w0 w→ ∀{h O id p g q own L A B R Q} {c:Int},Hz C Hp w h O id p g q own L A B R Q→dH c→
  Calls Tryz.prog 75 #[.pointer (some ⟨h,0,none⟩), .int .i64 c] w fun e w'=>e= .returned (.tuple #[.int .u64 ((bF (aN B Q) c).2.1:Int), .int .i64 (bF (aN B Q) c).2.2.1])∧Turned C Hp w h O id p g q own L B R w' (bF (aN B Q) c).1 A fun L'=>Agree L L' (bF (aN B Q) c).2.2.2
 AJ: ∀w,Below w0.heap.size w0 w→ ∀{h O id p g q own L A B R Q} {c sl sg:Int} {us:Nat},Hz C Hp w h O id p g q own L A B R Q→dH c→dH sl→dH sg→bM us→eX c sl→
  Calls Tryz.prog 78 #[.pointer (some ⟨h,0,none⟩), .agg #[.int .i64 c, .int .i64 sl, .int .i64 sg, .int .u64 (us:Int)]] w fun e w'=>e= .returned (.tuple #[.int .u64 0, .int .i64 2])∧Below w.heap.size w w'
 qL: ∀w,Below w0.heap.size w0 w→ ∀{h O id p g q own L A B R Q} {c sl sg:Int} {us:Nat},Hz C Hp w h O id p g q own L A B R Q→dH c→dH sl→dH sg→bM us→ ¬eX c sl→iX (aN B Q) (dZ c sl.toNat)=none→
  Calls Tryz.prog 78 #[.pointer (some ⟨h,0,none⟩), .agg #[.int .i64 c, .int .i64 sl, .int .i64 sg, .int .u64 (us:Int)]] w fun e w'=>e= .returned (.tuple #[.int .u64 0, .int .i64 4])∧Below w.heap.size w w'
 fresh: ∀w,Below w0.heap.size w0 w→ ∀{h O id p g q own L A B R Q} {c sl sg:Int} {us a:Nat} {X:SG},Hz C Hp w h O id p g q own L A B R Q→dH c→dH sl→dH sg→bM us→ ¬eX c sl→iX (aN B Q) (dZ c sl.toNat)=some (X,a)→
  Calls Tryz.prog 78 #[.pointer (some ⟨h,0,none⟩), .agg #[.int .i64 c, .int .i64 sl, .int .i64 sg, .int .u64 (us:Int)]] w fun e w'=> ∃op pp,e= .returned (.tuple #[.int .u64 (aL X.pl a:Int), .int .i64 0])∧w.heap.size≤op∧w.heap.size≤pp∧Turned C Hp w h O id p g q own L B R w' (jM (aN B Q) X op pp c sl.toNat a) A fun L'=>Agree L L' (b_ (bR (aL X.pl a) (bQ c sl.toNat) (h_ c)))
 grow: ∀w,Below w0.heap.size w0 w→ ∀{h O id p g q own L A B R Q},Hz C Hp w h O id p g q own L A B R Q→A.r≤1000000000000→
  Calls Tryz.prog 86 #[.pointer (some ⟨h,0,none⟩)] w fun e w'=>e= .returned (.int .i64 (cZ (aN B Q) A id).2.1)∧Turned C Hp w h O id p g q own L B R w' (cZ (aN B Q) A id).1 (cZ (aN B Q) A id).2.2 fun L'=>L'=L
 free: ∀w,Below w0.heap.size w0 w→ ∀{h O id p g q own L A B R Q} {a:Nat},Hz C Hp w h O id p g q own L A B R Q→bM a→(∀X o,dO (aN B Q) a=some (X,o)→dN o.P a=0→a∉o.P.F∧a∉o.P.G)→
  Calls Tryz.prog 90 #[.pointer (some ⟨h,0,none⟩), .int .u64 (a:Int)] w fun e w'=>e= .returned (.int .i64 (fJ (aN B Q) A a).2)∧Turned C Hp w h O id p g q own L B R w' (fJ (aN B Q) A a).1.1 (fJ (aN B Q) A a).1.2 fun L'=>Agree L L' [a]∧ ∀X o,dO (aN B Q) a=some (X,o)→aJ L' (bg o.P a).1
 Mv: ∀w,Below w0.heap.size w0 w→ ∀{h O id p g q own L A B R Q} {a:Nat},Hz C Hp w h O id p g q own L A B R Q→bM a→dO (aN B Q) a=none→
  Calls Tryz.prog 90 #[.pointer (some ⟨h,0,none⟩), .int .u64 (a:Int)] w fun e w'=>e= .returned (.int .i64 5)∧Below w.heap.size w w'
 EN: ∀w,Below w0.heap.size w0 w→ ∀{h O id p g q own L A B R Q} {a:Nat},Hz C Hp w h O id p g q own L A B R Q→bM a→dO (aN B Q) a=none→
  Calls Tryz.prog 116 #[.pointer (some ⟨h,0,none⟩), .int .u64 (a:Int)] w fun e w'=>e= .returned (.tuple #[.int .i64 0, .int .i64 5])∧Below w.heap.size w w'
 gather: ∀w,Below w0.heap.size w0 w→ ∀{h O id p g q own L A B R Q} {a:Nat} {X:SG} {o:bY} {P:List Nat},Hz C Hp w h O id p g q own L A B R Q→bM a→dO (aN B Q) a=some (X,o)→bT L o.P.cw (o.P.n:Int)=some P→P.length≤o.P.used→(∀x∈P,bO o.P.f o.P.s o.P.made x∧x∉o.P.F∧x∉o.P.G)→P.Nodup→
  Calls Tryz.prog 116 #[.pointer (some ⟨h,0,none⟩), .int .u64 (a:Int)] w fun e w'=>e= .returned (.tuple #[.int .i64 (P.length:Int), .int .i64 0])∧Turned C Hp w h O id p g q own L B R w' (jR (aN B Q) A X o P).1 (jR (aN B Q) A X o P).2 fun L'=>Agree L L' P∧aJ L' (iB o.P P)
 Nq: ∀w,Below w0.heap.size w0 w→ ∀{h O id p g q own L A B R Q},Hz C Hp w h O id p g q own L A B R Q→
  Calls Tryz.prog 83 #[.pointer (some ⟨h,0,none⟩), .pointer none] w fun e w'=>e= .returned (.int .i64 1)∧Below w.heap.size w w'
 FC: ∀w,Below w0.heap.size w0 w→ ∀{h O id p g q own L A B R Q} {b:SB},Hz C Hp w h O id p g q own L A B R Q→b∈B→
  Calls Tryz.prog 83 #[.pointer (some ⟨h,0,none⟩), .pointer (some ⟨b.sp,0,none⟩)] w fun e w'=>e= .returned (.int .i64 6)∧Below w.heap.size w w'
 adopt: ∀w,Below w0.heap.size w0 w→ ∀{h O id p g q own L A B R1 R2 Q} {b:SB},Hz C Hp w h O id p g q own L A B (R1++b::R2) Q→
  Calls Tryz.prog 83 #[.pointer (some ⟨h,0,none⟩), .pointer (some ⟨b.sp,0,none⟩)] w fun e w'=>e= .returned (.int .i64 0)∧ ∃O',Hz C Hp w' h O' id p g q own L A (B++ [b]) (R1++R2) (uV (aN B Q) b.X).1.Q∧(∀k,O' k→O k∨w.heap.size≤k)∧aH O w w'
 Hg: ∀w,Below w0.heap.size w0 w→ ∀{h O id p g q own L A B R Q} {pl:Int},Hz C Hp w h O id p g q own L A B R Q→dH pl→(∀b∈B,(b.X.pl:Int)≠pl)→
  Calls Tryz.prog 95 #[.pointer (some ⟨h,0,none⟩), .int .i64 pl] w fun e w'=>e= .returned (.tuple #[.pointer none, .int .i64 5])∧Below w.heap.size w w'
 leave: ∀w,Below w0.heap.size w0 w→ ∀{h O id p g q own L A B1 B2 R Q} {b:SB},Hz C Hp w h O id p g q own L A (B1++b::B2) R Q→
  Calls Tryz.prog 95 #[.pointer (some ⟨h,0,none⟩), .int .i64 (b.X.pl:Int)] w fun e w'=>e= .returned (.tuple #[.pointer (some ⟨b.sp,0,none⟩), .int .i64 0])∧ ∃O',Hz C Hp w' h O' id p g q own L A (B1++B2) (b::R) (qJ (aN (B1++b::B2) Q) (b.X.pl:Int)).1.Q∧(∀k,O' k→O k∨w.heap.size≤k)∧aH O w w'
 vT: ∀w,Below w0.heap.size w0 w→ ∀{h O id p g q own L A B R Q},Hz C Hp w h O id p g q own L A B R Q→
  Calls Tryz.prog 94 #[.pointer (some ⟨h,0,none⟩)] w fun e w'=> ∃a k cap,e= .returned (.slice a k cap)∧Seq Elem.ptrs w' (.slice a k cap) (B.map fun b=>some ⟨b.sp,0,none⟩)∧k≤cap∧cap≤9223372036854775807∧(∀b,In (.slice a k cap) b→w.heap.size≤b)∧Below w.heap.size w w'
 pages: ∀w,Below w0.heap.size w0 w→ ∀{h O id p g q own L A B R Q} {v:Value} {cs:List Int},Hz C Hp w h O id p g q own L A B R Q→iF w v cs→cs.length≤1000→
  Calls Tryz.prog 59 #[.pointer (some ⟨h,0,none⟩),v] w fun e w'=> ∃a k cap,e= .returned (.slice a k cap)∧Seq Elem.jl w' (.slice a k cap) (iD (aN B Q) cs)∧k≤cap∧cap≤9223372036854775807∧(∀b,In (.slice a k cap) b→w.heap.size≤b)∧Below w.heap.size w w'
section
variable {w0 w w' w2:World} {C:fH w0} {K:kW w0 C} {h id p g q:Nat} {O O' own own' T:Nat→Prop} {L L' Y:List Nat} {A A':St} {B B' R:List SB} {Q Q':Nat→QR} {H':HS}
theorem HO.lt (z:Hz C K.Hp w h O id p g q own L A B R Q) {k:Nat} (hk:HO p g own O B k):k<w.heap.size:=by
 rcases hk with hk|hk
 · exact (K.num z.hp).2.1 k hk
 · refine z.env.lt ?_
   rcases hk with e|e|e|⟨b,hb,e⟩
   · exact .inl e
   · exact .inr (.inl e)
   · exact .inr (.inr (.inl e))
   · exact .inr (.inr (.inr ⟨b,List.mem_append_left _ hb,e⟩))
theorem Hz.upd (z:Hz C K.Hp w h O id p g q own L A B R Q) (u:aH T w w') (hT: ∀k,T k→ ¬O k∧ ¬EO p g own (B++R) k):Hz C K.Hp w' h O id p g q own L A B R Q:=
 ⟨K.upd z.hp u fun k hk=>(hT k hk).1,z.env.upd u fun k hk=>(hT k hk).2,z.good,z.ap,z.lo⟩
theorem Hz.grew (z:Hz C K.Hp w h O id p g q own L A B R Q) (hb:Below w.heap.size w w'):Hz C K.Hp w' h O id p g q own L A B R Q:=z.upd (ak hb) fun _ x=>x.elim
theorem Hz.drew (z:Hz C K.Hp w h O id p g q own L A B R Q):Hz C K.Hp w.drew h O id p g q own L A B R Q:=z.grew (Below.refl _ _).drew
theorem Hz.alloc (z:Hz C K.Hp w h O id p g q own L A B R Q) (o:Obj):Hz C K.Hp (w.alloc o) h O id p g q own L A B R Q:=z.grew ((Below.refl _ _).alloc (Nat.le_refl _) o)
structure OH (C:fH w0) (K:kW w0 C) (h id p g q:Nat) (H:HS) (A:St) (n:Nat) (U:List Nat) (S:Nat→Prop) (w:World):Prop where
 ex: ∃O own L B,Hz C K.Hp w h O id p g q own L A B [] H.Q∧(B.map fun b=>b.X)=H.B∧L.length=n∧HU H L U∧ ∀k,HO p g own O B k→w0.heap.size≤k∧ ¬S k
 below:Below w0.heap.size w0 w
 lt: ∀k,S k→k<w.heap.size
abbrev Still (S:Nat→Prop) (w w':World):Prop:=aH (fun k=> ¬S k) w w'
end
end Go.Proofs.YtpibbcnkgdmcbaaGreatDoor
