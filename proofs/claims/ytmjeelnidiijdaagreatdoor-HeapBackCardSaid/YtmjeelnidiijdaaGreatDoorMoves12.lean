/- HeapMoves, as numbers; a heap beside another one that has nothing. -/
import Derived.Test.YtmjeelnidiijdaaGreatDoorTwo12
import Derived.Test.YtmjeelnidiijdaaGreatDoorGets12
namespace Go.Proofs.YtmjeelnidiijdaaGreatDoor.HeapMath
open ListMath GeoMath PageMath ClassMath SegMath QueueMath
open ArenaMath (St reserve release total)
set_option linter.unusedVariables false
/-- What of a segment its owner's cell is no part of. -/
def bare (X : SG) : Nat × List Bool × List OwR := (X.pl, X.K, X.L)
section
variable {H H' : HS} {L U : List Nat} {X : SG} {o : OwR} {A A' : St} {B B' : List SG}
theorem bare_mem (e : B'.map bare = B.map bare) (hX : X ∈ B') : ∃ Z ∈ B, Z.pl = X.pl ∧ Z.L = X.L := by
  have h : bare X ∈ B'.map bare := List.mem_map.2 ⟨X, hX, rfl⟩
  rw [e] at h
  obtain ⟨Z, hZ, e2⟩ := List.mem_map.1 h
  unfold bare at e2
  injection e2 with e3 e4
  injection e4 with _ e5
  exact ⟨Z, hZ, e3, e5⟩
theorem HU.bare (h : HU H L U) (e : H'.B.map bare = H.B.map bare) : HU H' L U :=
  ⟨fun X hX o ho => by
    obtain ⟨Z, hZ, _, e2⟩ := bare_mem e hX
    exact h.wh Z hZ o (by rw [e2]; exact ho), fun x hx => by
    obtain ⟨X, hX, o, ho, hr⟩ := h.at' x hx
    obtain ⟨Z, hZ, _, e2⟩ := bare_mem e.symm hX
    exact ⟨Z, hZ, o, by rw [e2]; exact ho, hr⟩, h.nd⟩
theorem Busy.bare (b : Busy H) (e : H'.B.map bare = H.B.map bare) : Busy H' :=
  ⟨fun X hX => by obtain ⟨Z, hZ, _, e2⟩ := bare_mem e hX; rw [← e2]; exact b.ne Z hZ, fun X hX o ho => by obtain ⟨Z, hZ, _, e2⟩ := bare_mem e hX; exact b.used Z hZ o (by rw [e2]; exact ho)⟩
theorem pgAt_bare (e : B'.map bare = B.map bare) {i : Nat} {k : Int} (h : PgAt B i k) : PgAt B' i k := by
  obtain ⟨X, hX, o, ho, e1, e2⟩ := h
  obtain ⟨Z, hZ, e3, e4⟩ := bare_mem e.symm hX
  exact ⟨Z, hZ, o, by rw [e4]; exact ho, e1, by rw [e2]; unfold HeapMath.keyOf; rw [e3]⟩
theorem pages_len (g : GoodH H) (g' : GoodH H') (e : H'.B.map HeapMath.bare = H.B.map HeapMath.bare) : (pagesH H' []).length = (pagesH H []).length := by
  have hq : ∀ i, (H'.Q i).all.length = (H.Q i).all.length := fun i => by
    refine List.Perm.length_eq ((List.perm_ext_iff_of_nodup (g'.q i).nd (g.q i).nd).2 fun k => ?_)
    rw [g'.mem i k, g.mem i k]
    exact ⟨pgAt_bare e.symm, pgAt_bare e⟩
  have key : ∀ cs : List Int, (pagesOf H' cs).length = (pagesOf H cs).length := fun cs => by
    induction cs with
    | nil => rfl
    | cons c t ih =>
      unfold pagesOf at ih ⊢
      rw [List.flatMap_cons, List.flatMap_cons, List.length_append, List.length_append, ih]
      congr 1
      split
      · rw [List.length_map, List.length_map, hq]
      · rfl
  unfold pagesH
  rw [if_pos rfl]
  exact key _
theorem pages_none (g : GoodH H) (e : H.B = []) : (pagesH H []).length = 0 := by
  rw [pages_len GoodH.zero g (by rw [e]; rfl)]
  decide
/-- Whose the segments are, and that nothing is posted. -/
structure Plain (H : HS) : Prop where
  own : ∀ X ∈ H.B, X.ow = 7 ∧ X.ot = 1
  cw : ∀ X ∈ H.B, ∀ o ∈ X.L, o.P.cw = 0
theorem Plain.rows (b : Plain H) (e : H'.B = H.B) : Plain H' := ⟨fun X hX => b.own X (by rw [← e]; exact hX), fun X hX => b.cw X (by rw [← e]; exact hX)⟩
theorem Plain.put (b : Plain H) (hX : X ∈ H.B) {pp : Nat} {S : PG} (hS : S.cw = 0) : Plain (H.setB (X.put pp S)) := by
  refine ⟨fun Z hZ => ?_, fun Z hZ z hz => ?_⟩
  · rcases mem_setB.1 hZ with ⟨rfl, _⟩ | ⟨hZ, _⟩
    · exact b.own X hX
    · exact b.own Z hZ
  · rcases mem_setB.1 hZ with ⟨rfl, _⟩ | ⟨hZ, _⟩
    · obtain ⟨u, hu, rfl⟩ := put_mem.1 hz
      split
      · exact hS
      · exact b.cw X hX u hu
    · exact b.cw Z hZ z hz
theorem alloc_cw0 (S : PG) : (allocP S).1.cw = S.cw := by
  cases hF : (refill S).F with
  | nil => rw [allocP_nil hF]
  | cons a t =>
    rw [allocP_cons hF]
    show (refill S).cw = _
    unfold refill; split
    · rfl
    · split <;> rfl
theorem Plain.local' (g : GoodH H) (b : Plain H) (c : Int) : Plain (localH H c).1 := by
  rcases localH_cases g c with ⟨_, _, H1, X, o, h1, h2, h3, h4, h5, h6, e⟩ | ⟨H1, e0, h1, h2, h3, e⟩
  · rw [e]
    exact (b.rows h1).put (by rw [h1]; exact h3) ((alloc_cw0 _).trans (b.cw X h3 o h4))
  · rw [e]; exact b.rows h1
theorem Plain.fresh (b : Plain H) {c sl : Int} {x : Nat} (f : Freshed H c sl x H') : Plain H' := by
  obtain ⟨X, a, op, pp, hr, hp, _, rfl⟩ := f
  obtain ⟨hX, _⟩ := roomH_some hr
  refine ⟨fun Z hZ => ?_, fun Z hZ z hz => ?_⟩
  · rcases mem_setB.1 hZ with ⟨rfl, _⟩ | ⟨hZ, _⟩
    · exact b.own X hX
    · exact b.own Z hZ
  · rcases mem_setB.1 hZ with ⟨rfl, _⟩ | ⟨hZ, _⟩
    · obtain ⟨u, hu, rfl⟩ := put_mem.1 hz
      rcases insR_mem.1 (show u ∈ insR X.L _ from hu) with rfl | ⟨hu, _⟩
      · rw [if_pos rfl]; rfl
      · rw [if_neg (hp u hu)]; exact b.cw X hX u hu
    · exact b.cw Z hZ z hz
theorem Plain.grow (b : Plain H) : Plain (growH H A 7).1 := by
  unfold growH
  split
  · exact b
  · refine ⟨fun Z hZ => ?_, fun Z hZ z hz => ?_⟩
    · rcases List.mem_append.1 hZ with h | h
      · exact b.own Z h
      · rw [List.mem_singleton.1 h]; exact ⟨rfl, rfl⟩
    · rcases List.mem_append.1 hZ with h | h
      · exact b.cw Z h z hz
      · rw [List.mem_singleton.1 h] at hz; cases hz
theorem Plain.loc (g : GoodH H) (b : Plain H) (c : Int) : Plain (locH H c) := by
  unfold locH; split
  · exact b.local' g c
  · exact b
theorem Plain.way {c : Int} {sl x : Nat} {ok : Bool} (g : GoodH H) (b : Plain H) (v : Way H A 7 c sl x ok H' A') : Plain H' := by
  cases v with
  | loc h1 h2 => exact b.local' g c
  | new h1 h2 => exact (b.loc g c).fresh h2
  | full h1 h2 h3 => exact (b.loc g c).grow
  | more h1 h2 h3 h5 h4 => exact (b.loc g c).grow.fresh h4
end
end Go.Proofs.YtmjeelnidiijdaaGreatDoor.HeapMath
namespace Go.Proofs.YtmjeelnidiijdaaGreatDoor
open Go.RowKit ListMath PageMath GeoMath SegMath ClassMath HeapMath QueueMath ArenaMath
set_option linter.unusedVariables false
section
variable {w0 w w' : World} {C : SgC w0} {K : HpC w0 C} {h o id id2 p g q : Nat} {O2 T : Nat → Prop} {L L' U U' : List Nat} {A A' : St} {H H' : HS} {v v2 : Value} {l l2 : List Nat} {Qo : Nat → QR}
/-- Heap h, a slice of the law's own, and heap o, that has nothing. -/
structure PH (C : SgC w0) (K : HpC w0 C) (h id o id2 p g q : Nat) (Qo : Nat → QR) (O2 : Nat → Prop) (H : HS) (A : St) (L U : List Nat) (v : Value) (l : List Nat) (w : World) : Prop where
  z : OX C K h id p g q H A L U (fun k => O2 k ∨ In v k) w
  vec : Vec Elem.u64s w v l
  lo : ∀ k, In v k → w0.heap.size ≤ k
  ds : ∀ k, In v k → ¬ O2 k
  lo2 : ∀ k, O2 k → w0.heap.size ≤ k
  hp2 : K.Hp w o O2 id2 p q [] Qo
  good : GoodH ⟨[], Qo⟩
theorem PH.grew (z : PH C K h id o id2 p g q Qo O2 H A L U v l w) (hb : Below w.heap.size w w') : PH C K h id o id2 p g q Qo O2 H A L U v l w' :=
  ⟨z.z.grew hb, z.vec.upd (updFalse_of hb) fun _ _ x => x, z.lo, z.ds, z.lo2, K.upd z.hp2 (updFalse_of hb) fun _ x => x.elim, z.good⟩
theorem PH.alloc (z : PH C K h id o id2 p g q Qo O2 H A L U v l w) (b : Obj) : PH C K h id o id2 p g q Qo O2 H A L U v l (w.alloc b) := z.grew ((Below.refl _ _).alloc (Nat.le_refl _) b)
/-- Behind a call on h. -/
theorem PH.next (z : PH C K h id o id2 p g q Qo O2 H A L U v l w) (y : OX C K h id p g q H' A' L' U' (fun k => O2 k ∨ In v k) w') (u : Still (fun k => O2 k ∨ In v k) w w') : PH C K h id o id2 p g q Qo O2 H' A' L' U' v l w' :=
  ⟨y, z.vec.upd u fun k hk e => e (.inr hk), z.lo, z.ds, z.lo2, K.upd z.hp2 u fun k e hk => e (.inl hk), z.good⟩
/-- Behind an append. -/
theorem PH.app (z : PH C K h id o id2 p g q Qo O2 H A L U v l w) (hv : Vec Elem.u64s w' v2 l2) (u : Upd (In v) w w') (h2 : ∀ k, In v2 k → In v k ∨ w.heap.size ≤ k) : PH C K h id o id2 p g q Qo O2 H A L U v2 l2 w' :=
  ⟨(z.z.app (fun k hk => ⟨.inr hk, z.lo k hk⟩) u h2 fun k hk => hv.lt hk).forget fun k hk => hk.elim (fun e => .inl (.inl e)) .inr, hv, fun k hk => (h2 k hk).elim (z.lo k) fun e => Nat.le_trans z.z.below.size e,
    fun k hk e => (h2 k hk).elim (fun x => z.ds k x e) fun x => by have := z.z.lt k (.inl e); omega, z.lo2, K.upd z.hp2 u z.ds, z.good⟩
theorem PH.cell {b f n cap j x : Nat} (z : PH C K h id o id2 p g q Qo O2 H A L U (.slice (some ⟨b, f, none⟩) n cap) l w) (hx : l[j]? = some x) : w.cell? ⟨b, f + j, none⟩ = some (.int .u64 (x : Int)) := by
  obtain ⟨b', o', e, hc⟩ := z.vec.seq.elem hx
  injection e with e
  injection e with e1 e2 _
  subst e1 e2
  have := hc 0 (.int .u64 (x : Int)) rfl
  simpa [Elem.u64s] using this
/-- The empty one asked for a block: it has none. -/
theorem ph_free_none (z : PH C K h id o id2 p g q Qo O2 H A L U v l w) {x : Nat} (hx : U64B x) :
    Calls Tryz.prog 15 #[.pointer (some ⟨o, 0, none⟩), .int .u64 (x : Int)] w fun e w' => e = .returned (.int .i64 5) ∧ Below w.heap.size w w' := by
  obtain ⟨⟨O, own, B, hz, h1, h3, h4⟩, h5, h6⟩ := z.z
  have zz : Hz C K.Hp w o O2 id2 p g q own L A [] B Qo := ⟨z.hp2, by have := hz.env; rw [List.append_nil] at this; exact this, z.good, fun k hk e => (h4 k (.inr e)).2 (.inl hk), fun k hk => hk.elim (z.lo2 k) fun e => (h4 k (.inr e)).1⟩
  exact K.free_none w h5 zz hx rfl
/-- Two heaps, of which the one has all. -/
theorem PH.two (z : PH C K h 7 o 9 p g q Qo O2 H A L U v l w) : ∃ O1 own B, Two C K h o p g q O1 O2 own L A B [] [] H.Q Qo (In v) w ∧ (B.map fun b => b.X) = H.B := by
  obtain ⟨⟨O, own, B, hz, h1, h3, h4⟩, h5, h6⟩ := z.z
  refine ⟨O, own, B, ⟨hz, ⟨z.hp2, ?_, z.good, fun k hk e => (h4 k (.inr e)).2 (.inl hk), fun k hk => hk.elim (z.lo2 k) fun e => (h4 k (.inr e)).1⟩, fun k hk e => (h4 k (.inl hk)).2 (.inl e), fun k hk => ⟨fun e => (h4 k (.inl e)).2 (.inr hk), z.ds k hk, fun e => (h4 k (.inr (by simpa using e))).2 (.inr hk)⟩, h5, fun k hk => h6 k (.inr hk)⟩, h1⟩
  have := hz.env
  simpa using this
/-- The other one has all. -/
theorem Two.ph {O1 own S : Nat → Prop} {B : List SB} {Q1 Q2 : Nat → QR} (z : Two C K h o p g q O1 O2 own L A [] [] B Q1 Q2 S w) (hS : ∀ k, In v k → S k) (hv : Vec Elem.u64s w v l) (hlo : ∀ k, In v k → w0.heap.size ≤ k) (hu : HU (hsOf B Q2) L U) : PH C K o 9 h 7 p g q Q1 O1 (hsOf B Q2) A L U v l w := by
  refine ⟨⟨⟨O2, own, B, z.z2, rfl, hu, fun k hk => ⟨?_, fun e => ?_⟩⟩, z.below, fun k hk => hk.elim (fun e => (K.num z.z1.hp).2.1 k e) fun e => z.lt k (hS k e)⟩, hv, hlo, fun k hk => (z.s k (hS k hk)).1, fun k hk => z.z1.lo k (.inl hk), z.z1.hp, z.z1.good⟩
  · exact z.z2.lo k (hk.imp (fun x => x) fun e => by simpa using e)
  · rcases hk with hk | hk
    · rcases e with e | e
      · exact z.ap k e hk
      · exact (z.s k (hS k e)).2.1 hk
    · rcases e with e | e
      · exact z.z1.ap k e (by simpa using hk)
      · exact (z.s k (hS k e)).2.2 (by simpa using hk)
end
end Go.Proofs.YtmjeelnidiijdaaGreatDoor
