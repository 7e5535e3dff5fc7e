/- A heap of a law's own, whose segments and pages the law asks itself (layer 12): Find, Cell, Load, Post. -/
import Derived.Test.YtmjeelnidiijdaaGreatDoorGets12
import Derived.Test.YtmjeelnidiijdaaGreatDoorPages12
namespace Go.Proofs.YtmjeelnidiijdaaGreatDoor
open Go.RowKit ListMath PageMath GeoMath SegMath ClassMath HeapMath QueueMath ArenaMath
set_option linter.unusedVariables false
abbrev putB (b : SB) (o : OwR) (S : PG) : SB := { b with X := b.X.put o.pp S }
section
variable {w0 : World}
/-- A heap of the law's own, its segments told. -/
structure OB (C : SgC w0) (K : HpC w0 C) (h id p g q : Nat) (O own : Nat → Prop) (H : HS) (A : St) (L U : List Nat) (S : Nat → Prop) (B : List SB) (w : World) : Prop where
  hz : Hz C K.Hp w h O id p g q own L A B [] H.Q
  b : (B.map fun b => b.X) = H.B
  hu : HU H L U
  lo : ∀ k, HO p g own O B k → w0.heap.size ≤ k ∧ ¬ S k
  below : Below w0.heap.size w0 w
  lt : ∀ k, S k → k < w.heap.size
end
section
variable {w0 w w' : World} {C : SgC w0} {K : HpC w0 C} {h id p g q : Nat} {O own S : Nat → Prop} {L L' Y U V : List Nat} {A : St} {B l r : List SB} {H : HS} {b : SB} {o : OwR} {S1 : PG}
theorem OX.ob (z : OX C K h id p g q H A L U S w) : ∃ O own B, OB C K h id p g q O own H A L U S B w := by
  obtain ⟨⟨O, own, B, hz, h1, h3, h4⟩, h5, h6⟩ := z
  exact ⟨O, own, B, hz, h1, h3, h4, h5, h6⟩
theorem OB.ox (z : OB C K h id p g q O own H A L U S B w) : OX C K h id p g q H A L U S w := ⟨⟨O, own, B, z.hz, z.b, z.hu, z.lo⟩, z.below, z.lt⟩
theorem OB.grew (z : OB C K h id p g q O own H A L U S B w) (hb : Below w.heap.size w w') : OB C K h id p g q O own H A L U S B w' :=
  ⟨z.hz.grew hb, z.b, z.hu, z.lo, below_then z.below z.below.size hb, fun k hk => Nat.lt_of_lt_of_le (z.lt k hk) hb.size⟩
theorem OB.sg (z : OB C K h id p g q O own H A L U S B w) (hb : b ∈ B) : Sg C.Int' w b.sp p g b.I b.c L b.X := z.hz.env.shop.sg b (List.mem_append_left _ hb)
theorem OB.good (z : OB C K h id p g q O own H A L U S B w) : GoodH H := z.ox.good
theorem OB.mem (z : OB C K h id p g q O own H A L U S B w) (hb : b ∈ B) : b.X ∈ H.B := by rw [← z.b]; exact List.mem_map.2 ⟨b, hb, rfl⟩
theorem putB_BP {x : Nat} : BP (putB b o S1) x ↔ BP b x := by
  constructor
  · rintro (hx | ⟨u, hu, hx⟩)
    · exact .inl hx
    · obtain ⟨v, hv, rfl⟩ := put_mem.1 hu
      obtain ⟨e1, e2, e3, e4, e5⟩ := put_lo v o.pp S1
      rw [e3, e4] at hx
      exact .inr ⟨v, hv, hx⟩
  · rintro (hx | ⟨u, hu, hx⟩)
    · exact .inl hx
    · obtain ⟨e1, e2, e3, e4, e5⟩ := put_lo u o.pp S1
      exact .inr ⟨_, put_mem.2 ⟨u, hu, rfl⟩, by rw [e3, e4]; exact hx⟩
theorem skS_put {X : SG} {pp : Nat} {S1 : PG} : skS (X.put pp S1) = skS X := by
  unfold skS
  have e : ((X.put pp S1).L.map fun o => (o.op, o.pp, o.cls, o.lo, o.wd)) = X.L.map fun o => (o.op, o.pp, o.cls, o.lo, o.wd) := by
    show ((X.L.map fun o => if o.pp = pp then { o with P := S1 } else o).map _) = _
    rw [List.map_map]
    refine List.map_congr_left fun x _ => ?_
    show (_, _, _, _, _) = _
    by_cases e : x.pp = pp
    · simp only [if_pos e]
    · simp only [if_neg e]
  rw [e]; rfl
theorem EO_putB {k : Nat} : EO p g own (l ++ putB b o S1 :: r) k ↔ EO p g own (l ++ b :: r) k := by
  unfold EO
  refine or_congr Iff.rfl (or_congr Iff.rfl (or_congr Iff.rfl ?_))
  simp only [List.mem_append, List.mem_cons]
  constructor
  · rintro ⟨a, ha | rfl | ha, hk⟩
    · exact ⟨a, .inl ha, hk⟩
    · exact ⟨b, .inr (.inl rfl), putB_BP.1 hk⟩
    · exact ⟨a, .inr (.inr ha), hk⟩
  · rintro ⟨a, ha | rfl | ha, hk⟩
    · exact ⟨a, .inl ha, hk⟩
    · exact ⟨_, .inr (.inl rfl), putB_BP.2 hk⟩
    · exact ⟨a, .inr (.inr ha), hk⟩
theorem setB_mid {l r : List SG} {X X' : SG} {Q : Nat → QR} (hn : ((l ++ X :: r).map fun X => X.pl).Nodup) (e : X'.pl = X.pl) : ((⟨l ++ X :: r, Q⟩ : HS).setB X').B = l ++ X' :: r := by
  show (l ++ X :: r).map _ = _
  rw [List.map_append, List.map_cons, List.nodup_append, List.nodup_cons] at hn
  have h1 : (l.map fun Y => if Y.pl = X'.pl then X' else Y) = l := by
    conv => rhs; rw [← List.map_id l]
    refine List.map_congr_left fun Y hY => ?_
    rw [if_neg (fun e2 => hn.2.2 _ (List.mem_map.2 ⟨Y, hY, rfl⟩) _ (List.mem_cons_self ..) (e2.trans e))]; rfl
  have h2 : (r.map fun Y => if Y.pl = X'.pl then X' else Y) = r := by
    conv => rhs; rw [← List.map_id r]
    refine List.map_congr_left fun Y hY => ?_
    rw [if_neg (fun e2 => hn.2.1.1 (List.mem_map.2 ⟨Y, hY, e2.trans e⟩))]; rfl
  rw [List.map_append, List.map_cons, h1, h2, if_pos e.symm]
/-- Behind a call of one of its pages. -/
theorem OB.page (z : OB C K h id p g q O own H A L U S (l ++ b :: r) w) (ho : o ∈ b.X.L) (k : PgS w' o.pp p g (OO o.pp p g) ⟨o.pp, 10, none⟩ L' S1) (u : Upd (OO o.pp p g) w w') (ha : Agree L L' Y) (hY : ∀ y ∈ Y, o.P.f ≤ y ∧ y + 8 ≤ o.P.f + o.P.n * o.P.s) (hs : S1.f = o.P.f ∧ S1.s = o.P.s ∧ S1.n = o.P.n) (hu : HU (H.setB (b.X.put o.pp S1)) L' V) :
    OB C K h id p g q O own (H.setB (b.X.put o.pp S1)) A L' V S (l ++ putB b o S1 :: r) w' ∧ Still S w w' := by
  have hbm : b ∈ l ++ b :: r := List.mem_append_right _ (List.mem_cons_self ..)
  have hsg := z.sg hbm
  have hw := hsg.good.within ho
  have hf := hsg.good.fit o ho
  have hE : ∀ k, OO o.pp p g k → EO p g own (l ++ b :: r) k := fun k hk => by
    rcases hk with e | e | e
    · exact .inr (.inr (.inr ⟨b, hbm, .inr ⟨o, ho, .inr e⟩⟩))
    · exact .inl e
    · exact .inr (.inl e)
  have hlow : Below w0.heap.size w w' := u.below (fun k hk => (z.lo k (.inr (hE k hk))).1) z.below.size
  have env : Env C w' p g q own L' A ((l ++ putB b o S1 :: r) ++ []) := by
    have e0 : (l ++ b :: r) ++ [] = l ++ b :: (r ++ []) := by simp
    have e2 : (l ++ putB b o S1 :: r) ++ [] = l ++ putB b o S1 :: (r ++ []) := by simp
    have ee := z.hz.env
    rw [e0] at ee
    rw [e2]
    refine ee.turn (b' := putB b o S1) (hsg.turn ho k u ha hY hs) rfl u (fun x hx => ?_) ha (fun y hy => ?_) fun x hx => .inl (putB_BP.1 hx)
    · rcases hx with e | e | e
      · exact .inl (.inr ⟨o, ho, .inr e⟩)
      · exact .inr (.inl e)
      · exact .inr (.inr e)
    · have h1 := hY y hy
      unfold fromS at hw
      omega
  have hX : b.X ∈ H.B := z.mem hbm
  have gp : GoodH (H.setB (b.X.put o.pp S1)) := z.good.put hX ho hs
  have hBe : ((l ++ putB b o S1 :: r).map fun b => b.X) = (H.setB (b.X.put o.pp S1)).B := by
    have hn := z.good.pls
    have hb := z.b
    rw [List.map_append, List.map_cons] at hb ⊢
    obtain ⟨HB, HQ⟩ := H
    change _ = HB at hb
    subst hb
    exact (setB_mid (X' := b.X.put o.pp S1) (Q := HQ) hn rfl).symm
  refine ⟨⟨⟨?_, env, ?_, fun k hk e => z.hz.ap k hk ?_, fun k hk => z.hz.lo k (hk.imp (fun x => x) fun e => ?_)⟩, hBe, hu, fun k hk => z.lo k (hk.imp (fun x => x) fun e => EO_putB.1 e), z.below.trans hlow, fun k hk => Nat.lt_of_lt_of_le (z.lt k hk) hlow.size⟩, u.mono fun k hk e => (z.lo k (.inr (hE k hk))).2 e⟩
  · refine K.skel (K.upd z.hz.hp u fun k hk e => z.hz.ap k e (by simpa using hE k hk)) ?_
    simp only [sgsOf, List.map_append, List.map_cons, skS_put]
  · unfold hsOf
    rw [hBe]
    exact gp
  · rw [List.append_nil] at e ⊢; exact EO_putB.1 e
  · rw [List.append_nil] at e ⊢; exact EO_putB.1 e
theorem ob_find (z : OB C K h id p g q O own H A L U S B w) (hb : b ∈ B) {x : Nat} (hx : U64B x) :
    Calls Tryz.prog 20 #[.pointer (some ⟨b.sp, 0, none⟩), .int .u64 (x : Int)] w fun e w' => e = .returned (.tuple #[ptrO (findO b.X x), .int .i64 (findE b.X x)]) ∧ Below w.heap.size w w' := C.find w z.below (z.sg hb) hx
theorem ob_cell (z : OB C K h id p g q O own H A L U S B w) (hb : b ∈ B) (ho : o ∈ b.X.L) :
    Calls Tryz.prog 21 #[.pointer (some ⟨o.pp, 0, none⟩)] w fun e w' => e = .returned (.pointer (some ⟨o.pp, 10, none⟩)) ∧ Below w.heap.size w w' := pg_cell ((z.sg hb).pg o ho).1
theorem HU.asked (g : GoodH H) (hu : HU H L U) {X : SG} (hX : X ∈ H.B) (ho : o ∈ X.L) : HU (H.setB (X.put o.pp o.P.asked)) L U := by
  obtain ⟨k1, P, k2⟩ := hu.wh X hX o ho
  exact hu.turn g hX ho ⟨rfl, rfl, rfl⟩ (Agree.refl L []) (fun y hy => by cases hy) k1.ask (P := P) k2.ask hu.nd (fun x hx => .inl hx) fun Q hQ => List.Perm.refl _
theorem ob_load (z : OB C K h id p g q O own H A L U S (l ++ b :: r) w) (ho : o ∈ b.X.L) (ht : o.P.ct ≤ 18446744073709551615) :
    Calls Tryz.prog 22 #[.pointer (some ⟨o.pp, 10, none⟩)] w fun e w' => e = .returned (.tuple #[.int .u64 (o.P.cw : Int), .int .u64 (o.P.ct : Int)]) ∧ OB C K h id p g q O own (H.setB (b.X.put o.pp o.P.asked)) A L U S (l ++ putB b o o.P.asked :: r) w' ∧ Still S w w' := by
  have hbm : b ∈ l ++ b :: r := List.mem_append_right _ (List.mem_cons_self ..)
  have hp := (z.sg hbm).pg o ho
  refine (pg_load w hp.1 ht).mono fun e w' ⟨e1, k1, u⟩ => ⟨e1, z.page ho ⟨k1, hp.2.1.ask, hp.2.2.1, hp.2.2.2, rfl, rfl⟩ u (Agree.refl L []) (fun y hy => by cases hy) ⟨rfl, rfl, rfl⟩ (HU.asked z.good z.hu (z.mem hbm) ho)⟩
/-- A block that is used is posted. -/
theorem ob_post (z : OB C K h id p g q O own H A L U S (l ++ b :: r) w) (ho : o ∈ b.X.L) (ht : o.P.ct ≤ 18446744073709551615) {x : Nat} (e : (x :: V).Perm U) (hr : inRun o.P x = true) :
    Calls Tryz.prog 23 #[.pointer (some ⟨o.pp, 0, none⟩), .int .u64 (x : Int), .int .u64 (o.P.cw : Int), .int .u64 (o.P.ct : Int)] w fun e w' => e = .returned (.tuple #[.bool true, .int .i64 0]) ∧ ∃ L', OB C K h id p g q O own (H.setB (b.X.put o.pp (o.P.wrote x))) A L' V S (l ++ putB b o (o.P.wrote x) :: r) w' ∧ Still S w w' := by
  have hbm : b ∈ l ++ b :: r := List.mem_append_right _ (List.mem_cons_self ..)
  have hp := (z.sg hbm).pg o ho
  have hX := z.mem hbm
  have hxU : x ∈ U := e.mem_iff.1 (List.mem_cons_self ..)
  have hx64 : U64B x := z.ox.u64 hxU
  obtain ⟨k1, P, k2⟩ := z.hu.wh b.X hX o ho
  have hxf : x ∈ U.filter (inRun o.P) := List.mem_filter.2 ⟨hxU, hr⟩
  have hb := k2.inU x hxf
  have hne := k2.ne.1 x hxf
  have hg0 := given_blk k1 hb
  have hfit := hb.fits k1.made (Nat.le_refl _)
  have h16 := k1.s16
  have hfx : o.P.f ≤ x := (inRun_iff.1 hr).1
  have hxL : x + 8 ≤ L.length := by have := k1.fit; omega
  have hpost : postP o.P x o.P.ct = (o.P.wrote x, true) := by unfold postP; rw [if_pos rfl]
  refine (pg_post w hp.1 k1 ht hx64 hp.2.2.2 ht hne.1 hne.2.1).mono fun e2 w' ⟨u, k3, _⟩ => ?_
  obtain ⟨e3, k4, k5⟩ := k3 hg0
  rw [hpost] at e3 k4 k5
  refine ⟨e3, _, z.page ho ⟨k4, k5, hp.2.2.1, ?_, rfl, rfl⟩ u (Agree.put hxL) (Y := [x]) (fun y hy => ?_) ⟨rfl, rfl, rfl⟩ (z.hu.post z.good hX ho e hr k5)⟩
  · exact hx64
  · rw [List.mem_singleton.1 hy]; omega
/-- A page is gathered. -/
theorem ox_gather (z : OX C K h id p g q H A L U S w) {X : SG} (hX : X ∈ H.B) (ho : o ∈ X.L) :
    Calls Tryz.prog 24 #[.pointer (some ⟨h, 0, none⟩), .int .u64 (pageAt (HeapMath.keyOf X o) : Int)] w fun e w' => ∃ (n : Nat) (P L' : List Nat), e = .returned (.tuple #[.int .i64 (n : Int), .int .i64 0]) ∧ n ≤ 64 ∧ OX C K h id p g q (gathH H A X o P).1 (gathH H A X o P).2 L' U S w' ∧ Still S w w' := by
  have hgood := z.good
  obtain ⟨⟨O, own, B, hz, h1, h3, h4⟩, h5, h6⟩ := z
  have eH : hsOf B H.Q = H := by unfold hsOf; rw [h1]
  obtain ⟨k1, P, k2⟩ := h3.wh X hX o ho
  obtain ⟨c1, c2, c3⟩ := k2.chain k1
  have hn64 : o.P.n ≤ 64 := (((hgood.seg X hX).g.cls o ho).size ((hgood.seg X hX).g.fit o ho).2.1).2.2.1
  have hnd : P.Nodup := (List.nodup_append.1 (List.nodup_append.1 (List.nodup_append.1 k2.nd).2.1).2.1).1
  have hfd : findH (hsOf B H.Q) (pageAt (HeapMath.keyOf X o)) = some (X, o) := by rw [eH]; exact findH_key hgood hX ho
  have hk := key_le (hgood.seg X hX) ho
  have k := K.gather w h5 hz (by unfold U64B pageAt; omega) hfd c1 c2 (fun x hx => ⟨k2.inP x hx, k2.ne.2 x hx⟩) hnd
  rw [eH] at k
  refine k.mono fun e w' ⟨e1, e2⟩ => ?_
  obtain ⟨L', _, _, f3, f4⟩ := OX.turned (D := fun _ => True) (U' := U) h5 h6 h4 e2 fun L' _ ha _ => ⟨h3.gath hgood hX ho k2 ha.1 (fun y hy => hy) ha.2, trivial⟩
  exact ⟨P.length, P, L', e1, by omega, f3, f4⟩
end
/-! ### Beside a struct of the law's own that holds a slice -/
section
variable {w0 w w' : World} {C : SgC w0} {K : HpC w0 C} {h id p g q rb : Nat} {L L' U U' : List Nat} {A A' : St} {H H' : HS} {v v2 : Value} {l l2 : List Nat} {T : Nat → Prop}
abbrev runA (h : Nat) (v : Value) : Array Value := #[.pointer (some ⟨h, 0, none⟩), .pointer none, v]
structure PR (C : SgC w0) (K : HpC w0 C) (h id p g q rb : Nat) (H : HS) (A : St) (L U : List Nat) (v : Value) (l : List Nat) (w : World) : Prop where
  z : OX C K h id p g q H A L U (fun k => k = rb ∨ In v k) w
  vec : Vec Elem.u64s w v l
  blk : Blk w rb 41 (runA h v)
  lo : ∀ k, k = rb ∨ In v k → w0.heap.size ≤ k
  ne : ¬ In v rb
theorem PR.grew (z : PR C K h id p g q rb H A L U v l w) (hb : Below w.heap.size w w') : PR C K h id p g q rb H A L U v l w' :=
  ⟨z.z.grew hb, z.vec.upd (updFalse_of hb) fun _ _ x => x, z.blk.grew hb, z.lo, z.ne⟩
theorem PR.alloc (z : PR C K h id p g q rb H A L U v l w) (b : Obj) : PR C K h id p g q rb H A L U v l (w.alloc b) := z.grew ((Below.refl _ _).alloc (Nat.le_refl _) b)
/-- Behind a call on the heap. -/
theorem PR.next (z : PR C K h id p g q rb H A L U v l w) (y : OX C K h id p g q H' A' L' U' (fun k => k = rb ∨ In v k) w') (u : Still (fun k => k = rb ∨ In v k) w w') : PR C K h id p g q rb H' A' L' U' v l w' :=
  ⟨y, z.vec.upd u fun k hk e => e (.inr hk), z.blk.upd u fun e => e (.inl rfl), z.lo, z.ne⟩
/-- Behind an append, and the store of what it made. -/
theorem PR.app (z : PR C K h id p g q rb H A L U v l w) (hv : Vec Elem.u64s w' v2 l2) (u : Upd (In v) w w') (h2 : ∀ k, In v2 k → In v k ∨ w.heap.size ≤ k) : PR C K h id p g q rb H A L U v2 l2 (w'.setCell ⟨rb, 2, none⟩ v2) := by
  have hlt := z.z.lt rb (.inl rfl)
  have hne2 : ¬ In v2 rb := fun e => (h2 rb e).elim z.ne fun e => by omega
  have z1 := (z.z.app (v := v) (v2 := v2) (fun k hk => ⟨.inr hk, z.lo k (.inr hk)⟩) u h2 fun k hk => hv.lt hk).forget (S' := fun k => k = rb ∨ In v2 k) fun k hk => hk.elim (fun e => .inl (.inl e)) .inr
  have u2 : Upd (fun k => k = rb) w' (w'.setCell ⟨rb, 2, none⟩ v2) := (Upd.refl (fun k => k = rb) w').setCell (p := ⟨rb, 2, none⟩) (.inl rfl) v2
  have b1 : Blk w' rb 41 (runA h v) := z.blk.upd u fun e => z.ne e
  obtain ⟨P, hP, turn⟩ := z1.lo
  refine ⟨turn u2 fun k hk => ⟨fun e => (hP k e).2.1 (.inl hk), by rw [hk]; exact z.lo rb (.inl rfl)⟩, hv.upd u2 fun k hk e => hne2 (e ▸ hk), ?_, fun k hk => ?_, hne2⟩
  · have := b1.put 2 v2
    simpa using this
  · rcases hk with e | e
    · exact z.lo k (.inl e)
    · exact (h2 k e).elim (fun x => z.lo k (.inr x)) fun x => Nat.le_trans z.z.below.size x
theorem PR.cell {b f n cap j x : Nat} (z : PR C K h id p g q rb H A L U (.slice (some ⟨b, f, none⟩) n cap) l w) (hx : l[j]? = some x) : w.cell? ⟨b, f + j, none⟩ = some (.int .u64 (x : Int)) := by
  obtain ⟨b', o', e, hc⟩ := z.vec.seq.elem hx
  injection e with e
  injection e with e1 e2 _
  subst e1 e2
  have := hc 0 (.int .u64 (x : Int)) rfl
  simpa [Elem.u64s] using this
/-- The same, its segments told; S: whatever is the law's own. -/
structure PB (C : SgC w0) (K : HpC w0 C) (h id p g q rb : Nat) (O own : Nat → Prop) (H : HS) (A : St) (L U : List Nat) (v : Value) (l : List Nat) (T : Nat → Prop) (B : List SB) (w : World) : Prop where
  ob : OB C K h id p g q O own H A L U T B w
  vec : Vec Elem.u64s w v l
  blk : Blk w rb 41 (runA h v)
  hT : ∀ k, k = rb ∨ In v k → T k
  lo : ∀ k, k = rb ∨ In v k → w0.heap.size ≤ k
  ne : ¬ In v rb
section
variable {O own : Nat → Prop} {B B' : List SB}
theorem PB.grew (z : PB C K h id p g q rb O own H A L U v l T B w) (hb : Below w.heap.size w w') : PB C K h id p g q rb O own H A L U v l T B w' :=
  ⟨z.ob.grew hb, z.vec.upd (updFalse_of hb) fun _ _ x => x, z.blk.grew hb, z.hT, z.lo, z.ne⟩
theorem PB.next (z : PB C K h id p g q rb O own H A L U v l T B w) (y : OB C K h id p g q O own H' A' L' U' T B' w') (u : Still T w w') : PB C K h id p g q rb O own H' A' L' U' v l T B' w' :=
  ⟨y, z.vec.upd u fun k hk e => e (z.hT k (.inr hk)), z.blk.upd u fun e => e (z.hT rb (.inl rfl)), z.hT, z.lo, z.ne⟩
theorem PB.pr (z : PB C K h id p g q rb O own H A L U v l T B w) : PR C K h id p g q rb H A L U v l w := ⟨z.ob.ox.forget z.hT, z.vec, z.blk, z.lo, z.ne⟩
theorem OB.ours {S : Nat → Prop} (z : OB C K h id p g q O own H A L U S B w) (hb : Below w.heap.size w w') : OB C K h id p g q O own H A L U (fun k => S k ∨ (w.heap.size ≤ k ∧ k < w'.heap.size)) B w' := by
  have z' := z.grew hb
  refine ⟨z'.hz, z'.b, z'.hu, fun k hk => ⟨(z.lo k hk).1, fun e => ?_⟩, z'.below, fun k hk => hk.elim (z'.lt k) fun e => e.2⟩
  rcases e with e | e
  · exact (z.lo k hk).2 e
  · have := HO.lt z.hz hk; omega
/-- Its segments, as it hands them out. -/
theorem pr_segs (z : PR C K h id p g q rb H A L U v l w) : Calls Tryz.prog 19 #[.pointer (some ⟨h, 0, none⟩)] w fun e w' => ∃ a k cap, e = .returned (.slice a k cap) ∧ ∃ O own B T, Seq Elem.ptrs w' (.slice a k cap) (B.map fun b => some ⟨b.sp, 0, none⟩) ∧ k ≤ cap ∧ cap ≤ 9223372036854775807 ∧ (∀ b, In (.slice a k cap) b → b < w'.heap.size → T b) ∧ PB C K h id p g q rb O own H A L U v l T B w' := by
  obtain ⟨O, own, B, zb⟩ := z.z.ob
  refine (K.segs w zb.below zb.hz).mono fun e w' ⟨a, k, cap, e1, e2, e3, e4, e5, hb⟩ => ⟨a, k, cap, e1, O, own, B, _, e2, e3, e4, fun b hb1 hb2 => .inr ⟨e5 b hb1, hb2⟩, zb.ours hb, z.vec.upd (updFalse_of hb) fun _ _ x => x, z.blk.grew hb, fun k hk => .inl hk, z.lo, z.ne⟩
end
theorem findE_out {X : SG} {a : Nat} (h : findO X a = none) : findE X a ≠ 0 := by
  unfold findO at h; unfold findE
  split
  · decide
  · rename_i hn
    rw [if_neg hn] at h
    rw [h]; decide
theorem findE_in {X : SG} {a : Nat} {o : OwR} (h : findO X a = some o) : findE X a = 0 := by
  unfold findO at h; unfold findE
  split
  · rename_i hn; rw [if_pos hn] at h; cases h
  · rename_i hn
    rw [if_neg hn] at h
    rw [h]; rfl
theorem findO_far {X Z : SG} {a : Nat} {o : OwR} (h : findO X a = some o) (hne : Z.pl ≠ X.pl) : findO Z a = none := by
  unfold findO at h ⊢
  split at h
  · cases h
  · rename_i hn
    rw [if_pos (by omega)]
end
end Go.Proofs.YtmjeelnidiijdaaGreatDoor
