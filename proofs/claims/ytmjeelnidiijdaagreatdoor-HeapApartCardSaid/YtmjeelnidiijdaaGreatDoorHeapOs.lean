/- A heap of a law's own (layer 12): each call on it. -/
import Derived.Test.YtmjeelnidiijdaaGreatDoorHeapCl
namespace Go.Proofs.YtmjeelnidiijdaaGreatDoor
open Go.RowKit ListMath PageMath GeoMath SegMath ClassMath HeapMath QueueMath ArenaMath
set_option linter.unusedVariables false

theorem badF_nat {c sl : Int} (h : ¬ badF c sl) : ¬ badF c (sl.toNat : Int) := by unfold badF at h ⊢; omega
section
variable {w0 w w' w2 : World} {C : SgC w0} {K : HpC w0 C} {h id p g q n : Nat} {O O' own own' : Nat → Prop} {L L' Y U U' : List Nat} {A A' : St} {B B' R : List SB} {H H' : HS} {M : List Nat → Prop} {S : Nat → Prop}
theorem OH.turned (hb : Below w0.heap.size w0 w) (hS : ∀ k, S k → k < w.heap.size) (hlo : ∀ k, HO p g own O B k → w0.heap.size ≤ k ∧ ¬ S k) (hl : L.length = n) (t : Turned C K.Hp w h O id p g q own L B [] w2 H' A' M)
    (hu : ∀ L', M L' → (∀ X ∈ H'.B, ∀ o ∈ X.L, GoodP L' o.P) → HU H' L' U') : OH C K h id p g q H' A' n U' S w2 ∧ Still S w w2 := by
  obtain ⟨O', own', L', B', hz, hB, hll, ha, hg, u⟩ := t
  have u' : Upd (fun k => w0.heap.size ≤ k ∧ ¬ S k) w w2 := u.mono hlo
  refine ⟨⟨⟨O', own', L', B', hz, hB, hll.trans hl, hu L' ha fun X hX o ho => ?_, fun k hk => (hg k hk).elim (hlo k) fun h => ⟨Nat.le_trans hb.size h, fun hs => by have := hS k hs; omega⟩⟩, hb.trans (u'.below (fun k hk => hk.1) hb.size), fun k hk => Nat.lt_of_lt_of_le (hS k hk) (u'.below (fun k hk => hk.1) hb.size).size⟩, u'.mono fun k hk => hk.2⟩
  rw [← hB] at hX
  obtain ⟨b, hb', rfl⟩ := List.mem_map.1 hX
  exact ((hz.env.shop.sg b (List.mem_append_left _ hb')).pg o ho).2.1
theorem OH.grew (z : OH C K h id p g q H A n U S w) (hb : Below w.heap.size w w') : OH C K h id p g q H A n U S w' := by
  obtain ⟨⟨O, own, L, B, hz, h1, h2, h3, h4⟩, h5, h6⟩ := z
  exact ⟨⟨O, own, L, B, hz.grew hb, h1, h2, h3, h4⟩, below_then h5 h5.size hb, fun k hk => Nat.lt_of_lt_of_le (h6 k hk) hb.size⟩
/-- A block of the law's own. -/
theorem OH.mine (z : OH C K h id p g q H A n U S w) (o : Obj) : OH C K h id p g q H A n U (fun k => S k ∨ k = w.heap.size) (w.alloc o) := by
  obtain ⟨⟨O, own, L, B, hz, h1, h2, h3, h4⟩, h5, h6⟩ := z
  have hg : Below w.heap.size w (w.alloc o) := (Below.refl _ _).alloc (Nat.le_refl _) o
  refine ⟨⟨O, own, L, B, hz.grew hg, h1, h2, h3, fun k hk => ⟨(h4 k hk).1, fun e => ?_⟩⟩, below_then h5 h5.size hg, fun k hk => ?_⟩
  · rcases e with e | e
    · exact (h4 k hk).2 e
    · have := HO.lt hz hk; omega
  · have h7 : (w.alloc o).heap.size = w.heap.size + 1 := by simp
    rcases hk with hk | hk
    · have := h6 k hk; omega
    · omega
theorem OH.forget {S' : Nat → Prop} (z : OH C K h id p g q H A n U S w) (hs : ∀ k, S' k → S k) : OH C K h id p g q H A n U S' w := by
  obtain ⟨⟨O, own, L, B, hz, h1, h2, h3, h4⟩, h5, h6⟩ := z
  exact ⟨⟨O, own, L, B, hz, h1, h2, h3, fun k hk => ⟨(h4 k hk).1, fun e => (h4 k hk).2 (hs k e)⟩⟩, h5, fun k hk => h6 k (hs k hk)⟩
theorem OH.drew (z : OH C K h id p g q H A n U S w) : OH C K h id p g q H A n U S w.drew := z.grew (Below.refl _ _).drew
theorem OH.alloc (z : OH C K h id p g q H A n U S w) (o : Obj) : OH C K h id p g q H A n U S (w.alloc o) := z.grew ((Below.refl _ _).alloc (Nat.le_refl _) o)
theorem OH.good (z : OH C K h id p g q H A n U S w) : GoodH H := by
  obtain ⟨⟨O, own, L, B, hz, h1, _⟩, _, _⟩ := z
  have := hz.good
  unfold hsOf at this
  rw [h1] at this
  exact this
theorem OH.arena (z : OH C K h id p g q H A n U S w) : ArenaMath.Good A ∧ (∀ x, x ∈ A.l ↔ ∃ X ∈ H.B, x = (X.pl, 1)) ∧ A.S * 16384 = n := by
  obtain ⟨⟨O, own, L, B, hz, h1, h2, _⟩, _, _⟩ := z
  refine ⟨hz.env.ar.good, fun x => ?_, by rw [← h2]; exact hz.env.size⟩
  rw [hz.env.pls x, ← h1, List.append_nil]
  constructor
  · rintro ⟨b, hb, e⟩; exact ⟨b.X, List.mem_map.2 ⟨b, hb, rfl⟩, e⟩
  · rintro ⟨X, hX, e⟩
    obtain ⟨b, hb, rfl⟩ := List.mem_map.1 hX
    exact ⟨b, hb, e⟩
theorem OH.hu (z : OH C K h id p g q H A n U S w) : ∃ L, L.length = n ∧ HU H L U := by
  obtain ⟨⟨O, own, L, B, hz, h1, h2, h3, _⟩, _, _⟩ := z
  exact ⟨L, h2, h3⟩
theorem oh_grow (z : OH C K h id p g q H A n U S w) (hr : A.r ≤ 1000000000000) :
    Calls Tryz.prog 26 #[.pointer (some ⟨h, 0, none⟩)] w fun e w' => e = .returned (.int .i64 (growH H A id).2.1) ∧ OH C K h id p g q (growH H A id).1 (growH H A id).2.2 n U S w' ∧ Still S w w' := by
  obtain ⟨⟨O, own, L, B, hz, h1, h2, h3, h4⟩, h5, h6⟩ := z
  have e : hsOf B H.Q = H := by unfold hsOf; rw [h1]
  have k := K.grow w h5 hz hr
  rw [e] at k
  exact k.mono fun e w' ⟨k1, k2⟩ => ⟨k1, OH.turned h5 h6 h4 h2 k2 fun L' ha _ => by subst ha; exact h3.grow (Agree.refl _ _)⟩
/-- What Fresh has made of it. -/
def Freshed (H : HS) (c sl : Int) (x : Nat) (H' : HS) : Prop := ∃ X a op pp, roomH H (wdOf c sl.toNat) = some (X, a) ∧ (∀ o ∈ X.L, o.pp ≠ pp) ∧ x = fromS X.pl a ∧ H' = freshH H X op pp c sl.toNat a
theorem oh_fresh (z : OH C K h id p g q H A n U S w) {c sl sg : Int} {us : Nat} (hc : I64B c) (hs : I64B sl) (hg : I64B sg) (hu : U64B us) :
    Calls Tryz.prog 28 #[.pointer (some ⟨h, 0, none⟩), .agg #[.int .i64 c, .int .i64 sl, .int .i64 sg, .int .u64 (us : Int)]] w fun e w' => ∃ (x : Nat) (er : Int) (H' : HS), e = .returned (.tuple #[.int .u64 (x : Int), .int .i64 er]) ∧
      ((er = 0 ∧ ¬ badF c sl ∧ x ∉ U ∧ (OH C K h id p g q H' A n (U ++ [x]) S w' ∧ Still S w w') ∧ Freshed H c sl x H' ∧ ∃ Z ∈ H'.B, ∃ o ∈ Z.L, o.cls = c ∧ o.P.s = szOf c sl.toNat ∧ IsBlk o.P.f o.P.s o.P.made x) ∨ (er ≠ 0 ∧ x = 0 ∧ H' = H ∧ (OH C K h id p g q H A n U S w' ∧ Still S w w') ∧ (badF c sl ∨ roomH H (wdOf c sl.toNat) = none))) := by
  have hgood := z.good
  have z0 := z
  obtain ⟨⟨O, own, L, B, hz, h1, h2, h3, h4⟩, h5, h6⟩ := z
  have e : hsOf B H.Q = H := by unfold hsOf; rw [h1]
  by_cases hb : badF c sl
  · exact (K.fresh_bad w h5 hz hc hs hg hu hb).mono fun e w' ⟨k1, k2⟩ => ⟨0, 2, H, k1, .inr ⟨by decide, rfl, rfl, ⟨z0.grew k2, updFalse_of k2 |>.mono fun _ x => x.elim⟩, .inl hb⟩⟩
  · cases hr : roomH H (wdOf c sl.toNat) with
    | none => exact (K.fresh_full w h5 hz hc hs hg hu hb (by rw [e]; exact hr)).mono fun e w' ⟨k1, k2⟩ => ⟨0, 4, H, k1, .inr ⟨by decide, rfl, rfl, ⟨z0.grew k2, updFalse_of k2 |>.mono fun _ x => x.elim⟩, .inr rfl⟩⟩
    | some y =>
      obtain ⟨X, a⟩ := y
      obtain ⟨hX, ha⟩ := roomH_some hr
      have k := K.fresh w h5 hz hc hs hg hu hb (by rw [e]; exact hr)
      rw [e] at k
      refine k.mono fun e w' ⟨op, pp, k1, k2, k3, k4⟩ => ?_
      have hb' := badF_nat hb
      have hX' : X ∈ B.map fun b => b.X := by rw [h1]; exact hX
      obtain ⟨b, hbB, rfl⟩ := List.mem_map.1 hX'
      have hsg := hz.env.shop.sg b (List.mem_append_left _ hbB)
      have hp : ∀ o ∈ b.X.L, o.pp ≠ pp := fun o ho e => by
        have := (hsg.pg o ho).1.lt
        omega
      have hlen : (b.X.pl + 1) * 16384 ≤ L.length := hsg.len.1
      have k5 := k4
      obtain ⟨_, _, L1, B1, hz1, hB1, _, ha1, _, _⟩ := k5
      have hg1 : ∀ X' ∈ (freshH H b.X op pp c sl.toNat a).B, ∀ o ∈ X'.L, GoodP L1 o.P := fun X' hX' o ho => by
        rw [← hB1] at hX'
        obtain ⟨b', hb'', rfl⟩ := List.mem_map.1 hX'
        exact ((hz1.env.shop.sg b' (List.mem_append_left _ hb'')).pg o ho).2.1
      obtain ⟨c1, c2, c3⟩ := h3.fresh' hgood hX hb' ha hp ha1 hg1 hlen hsg.len.2
      exact ⟨_, 0, _, k1, .inl ⟨rfl, hb, c1, OH.turned h5 h6 h4 h2 k4 fun L' ha' hg' => (h3.fresh' hgood hX hb' ha hp ha' hg' hlen hsg.len.2).2.1, ⟨b.X, a, op, pp, hr, hp, rfl, rfl⟩, c3⟩⟩
/-- A block that is used goes back. -/
theorem oh_free (z : OH C K h id p g q H A n U S w) {x : Nat} (e : (x :: U').Perm U) (hx : U64B x) :
    Calls Tryz.prog 15 #[.pointer (some ⟨h, 0, none⟩), .int .u64 (x : Int)] w fun e w' => e = .returned (.int .i64 0) ∧ OH C K h id p g q (freeH H A x).1.1 (freeH H A x).1.2 n U' S w' ∧ Still S w w' := by
  have hgood := z.good
  obtain ⟨⟨O, own, L, B, hz, h1, h2, h3, h4⟩, h5, h6⟩ := z
  have eH : hsOf B H.Q = H := by unfold hsOf; rw [h1]
  have hxU : x ∈ U := e.mem_iff.1 (List.mem_cons_self ..)
  have hne : ∀ X o, findH (hsOf B H.Q) x = some (X, o) → givenE o.P x = 0 → x ∉ o.P.F ∧ x ∉ o.P.G := fun X o hf _ => by
    rw [eH] at hf
    obtain ⟨hX, ho⟩ := findH_some hf
    have ho := (findO_some ho).1
    obtain ⟨Z, hZ, u, hu, hb, hf2⟩ := h3.blk hgood hxU
    rw [hf] at hf2
    cases hf2
    obtain ⟨k1, P, k2⟩ := h3.wh X hX o ho
    have := k2.ne.1 x (List.mem_filter.2 ⟨hxU, inRun_blk hb k1.made k1.s16⟩)
    exact ⟨this.1, this.2.1⟩
  have k := K.free w h5 hz hx hne
  rw [eH] at k
  refine k.mono fun e' w' ⟨k1, k2⟩ => ?_
  exact ⟨by rw [k1, h3.free0 hgood e], OH.turned h5 h6 h4 h2 k2 fun L' ha _ => (h3.free (A := A) hgood e ha.1 fun X hX o ho hr => ha.2 X o (findH_run hgood hX ho hr)).2⟩
theorem oh_segs (z : OH C K h id p g q H A n U S w) :
    Calls Tryz.prog 19 #[.pointer (some ⟨h, 0, none⟩)] w fun e w' => ∃ a k cap, ∃ S : List (Option Addr), e = .returned (.slice a k cap) ∧ Seq Elem.ptrs w' (.slice a k cap) S ∧ S.length = H.B.length ∧ k ≤ cap ∧ cap ≤ 9223372036854775807 ∧ (∀ b, In (.slice a k cap) b → w.heap.size ≤ b) ∧ Below w.heap.size w w' := by
  obtain ⟨⟨O, own, L, B, hz, h1, h2, h3, h4⟩, h5, h6⟩ := z
  exact (K.segs w h5 hz).mono fun e w' ⟨a, k, cap, k1, k2, k3, k4, k5, k6⟩ => ⟨a, k, cap, B.map fun b => some ⟨b.sp, 0, none⟩, k1, k2, by rw [← h1, List.length_map, List.length_map], k3, k4, k5, k6⟩
theorem oh_given (z : OH C K h id p g q H A n U S w) :
    Calls Tryz.prog 25 #[.pointer (some ⟨q, 0, none⟩)] w fun e w' => e = .returned (.int .i64 (total A.l : Int)) ∧ Below w.heap.size w w' := by
  obtain ⟨⟨O, own, L, B, hz, h1, h2, h3, h4⟩, h5, h6⟩ := z
  exact given_any hz.env.ar
end
end Go.Proofs.YtmjeelnidiijdaaGreatDoor
