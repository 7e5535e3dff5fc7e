/- Two heaps over one arena and one memory (HeapMoves): segments leave the one, and the other adopts them. -/
import Derived.Test.YtfdnmoedejejlaaGreatDoorGets12
namespace Go.Proofs.YtfdnmoedejejlaaGreatDoor
open Go.RowKit ListMath PageMath GeoMath SegMath ClassMath HeapMath QueueMath ArenaMath
set_option linter.unusedVariables false
section
variable {w0 w w' : World} {C : SgC w0} {K : HpC w0 C} {h o id p g q : Nat} {O O1 O2 own T S : Nat → Prop} {L U : List Nat} {A : St} {B B1 M B2 R R' : List SB} {Q Q1 Q2 : Nat → QR} {b : SB}
theorem EO_perm (e : R.Perm R') {k : Nat} : EO p g own R k ↔ EO p g own R' k := by
  unfold EO
  constructor
  · rintro (x | x | x | ⟨b, hb, x⟩)
    · exact .inl x
    · exact .inr (.inl x)
    · exact .inr (.inr (.inl x))
    · exact .inr (.inr (.inr ⟨b, e.mem_iff.1 hb, x⟩))
  · rintro (x | x | x | ⟨b, hb, x⟩)
    · exact .inl x
    · exact .inr (.inl x)
    · exact .inr (.inr (.inl x))
    · exact .inr (.inr (.inr ⟨b, e.mem_iff.2 hb, x⟩))
/-- Beside a call on the other one. -/
theorem Hz.other (z : Hz C K.Hp w h O id p g q own L A B R Q) (u : Upd T w w') (hT : ∀ k, T k → ¬ O k) (e : Env C w' p g q own L A (B ++ R')) (hE : ∀ k, EO p g own (B ++ R') k → EO p g own (B ++ R) k) : Hz C K.Hp w' h O id p g q own L A B R' Q :=
  ⟨K.upd z.hp u hT, e, z.good, fun k hk x => z.ap k hk (hE k x), fun k hk => z.lo k (hk.imp (fun x => x) (hE k))⟩
/-- Heap h has B1, heap o has B2, M neither. -/
structure Two (C : SgC w0) (K : HpC w0 C) (h o p g q : Nat) (O1 O2 own : Nat → Prop) (L : List Nat) (A : St) (B1 M B2 : List SB) (Q1 Q2 : Nat → QR) (S : Nat → Prop) (w : World) : Prop where
  z1 : Hz C K.Hp w h O1 7 p g q own L A B1 (M ++ B2) Q1
  z2 : Hz C K.Hp w o O2 9 p g q own L A B2 (M ++ B1) Q2
  ap : ∀ k, O1 k → ¬ O2 k
  s : ∀ k, S k → ¬ O1 k ∧ ¬ O2 k ∧ ¬ EO p g own (B1 ++ (M ++ B2)) k
  below : Below w0.heap.size w0 w
  lt : ∀ k, S k → k < w.heap.size
theorem rot : (B1 ++ (M ++ B2)).Perm (B2 ++ (M ++ B1)) := by
  refine List.perm_append_comm.trans ?_
  rw [List.append_assoc]
  refine (List.perm_append_comm).trans ?_
  rw [List.append_assoc]
  exact (List.Perm.append_left B2 List.perm_append_comm)
theorem Two.grew (z : Two C K h o p g q O1 O2 own L A B1 M B2 Q1 Q2 S w) (hb : Below w.heap.size w w') : Two C K h o p g q O1 O2 own L A B1 M B2 Q1 Q2 S w' :=
  ⟨z.z1.grew hb, z.z2.grew hb, z.ap, z.s, below_then z.below z.below.size hb, fun k hk => Nat.lt_of_lt_of_le (z.lt k hk) hb.size⟩
theorem Two.forget {S' : Nat → Prop} (z : Two C K h o p g q O1 O2 own L A B1 M B2 Q1 Q2 S w) (hs : ∀ k, S' k → S k) : Two C K h o p g q O1 O2 own L A B1 M B2 Q1 Q2 S' w :=
  ⟨z.z1, z.z2, z.ap, fun k hk => z.s k (hs k hk), z.below, fun k hk => z.lt k (hs k hk)⟩
/-- All blocks since w that there are now are the law's own. -/
theorem Two.ours (z : Two C K h o p g q O1 O2 own L A B1 M B2 Q1 Q2 S w) (hb : Below w.heap.size w w') : Two C K h o p g q O1 O2 own L A B1 M B2 Q1 Q2 (fun k => S k ∨ (w.heap.size ≤ k ∧ k < w'.heap.size)) w' := by
  have z' := z.grew hb
  refine ⟨z'.z1, z'.z2, z.ap, fun k hk => ?_, z'.below, fun k hk => hk.elim (z'.lt k) fun e => e.2⟩
  rcases hk with hk | hk
  · exact z.s k hk
  · exact ⟨fun e => by have := (K.num z.z1.hp).2.1 k e; omega, fun e => by have := (K.num z.z2.hp).2.1 k e; omega, fun e => by have := z.z1.env.lt e; omega⟩
theorem two_leave_none (z : Two C K h o p g q O1 O2 own L A B1 M B2 Q1 Q2 S w) :
    Calls Tryz.prog 30 #[.pointer (some ⟨h, 0, none⟩), .int .i64 (-1)] w fun e w' => e = .returned (.tuple #[.pointer none, .int .i64 5]) ∧ Below w.heap.size w w' :=
  K.leave_none w z.below z.z1 (by unfold I64B; decide) fun b hb => by omega
theorem two_place (z : Two C K h o p g q O1 O2 own L A B1 M B2 Q1 Q2 S w) (hb : b ∈ B1) :
    Calls Tryz.prog 31 #[.pointer (some ⟨b.sp, 0, none⟩)] w fun e w' => e = .returned (.int .i64 (b.X.pl : Int)) ∧ Below w.heap.size w w' :=
  C.place w z.below (z.z1.env.shop.sg b (List.mem_append_left _ hb))
theorem two_leave (z : Two C K h o p g q O1 O2 own L A (b :: B1) [] B2 Q1 Q2 S w) :
    Calls Tryz.prog 30 #[.pointer (some ⟨h, 0, none⟩), .int .i64 (b.X.pl : Int)] w fun e w' => e = .returned (.tuple #[.pointer (some ⟨b.sp, 0, none⟩), .int .i64 0]) ∧ ∃ O1' Q1', Two C K h o p g q O1' O2 own L A B1 [b] B2 Q1' Q2 S w' ∧ Still S w w' := by
  refine (K.leave w z.below (B1 := []) (B2 := B1) z.z1).mono fun e w' ⟨e1, O', k1, k2, u⟩ => ⟨e1, O', (leaveH (hsOf ([] ++ b :: B1) Q1) (b.X.pl : Int)).1.Q, ?_⟩
  have hlow : Below w0.heap.size w w' := u.below (fun k hk => z.z1.lo k (.inl hk)) z.below.size
  have hperm : (B1 ++ ([b] ++ B2)).Perm (b :: B1 ++ ([] ++ B2)) := by
    show (B1 ++ b :: B2).Perm (b :: (B1 ++ B2))
    exact List.perm_middle
  have k1' : Hz C K.Hp w' h O' 7 p g q own L A B1 ([b] ++ B2) (leaveH (hsOf ([] ++ b :: B1) Q1) (b.X.pl : Int)).1.Q := k1
  refine ⟨⟨k1', z.z2.other u (fun k hk e => z.ap k hk e) (k1'.env.perm rot) fun k hk => (EO_perm (rot.trans (hperm.trans rot)) (R := B2 ++ ([b] ++ B1)) (R' := B2 ++ ([] ++ b :: B1))).1 hk, fun k hk hk2 => ?_, fun k hk => ⟨fun e => ?_, (z.s k hk).2.1, fun e => (z.s k hk).2.2 ((EO_perm hperm).1 e)⟩, z.below.trans hlow, fun k hk => Nat.lt_of_lt_of_le (z.lt k hk) hlow.size⟩, u.mono fun k hk e => (z.s k e).1 hk⟩
  · rcases k2 k hk with e | e
    · exact z.ap k e hk2
    · have := (K.num z.z2.hp).2.1 k hk2; omega
  · rcases k2 k e with e | e
    · exact (z.s k hk).1 e
    · have := z.lt k hk; omega
theorem two_adopt (z : Two C K h o p g q O1 O2 own L A B1 [b] B2 Q1 Q2 S w) :
    Calls Tryz.prog 32 #[.pointer (some ⟨o, 0, none⟩), .pointer (some ⟨b.sp, 0, none⟩)] w fun e w' => e = .returned (.int .i64 0) ∧ ∃ O2' Q2', Two C K h o p g q O1 O2' own L A B1 [] (B2 ++ [b]) Q1 Q2' S w' ∧ Still S w w' := by
  refine (K.adopt w z.below (R1 := []) (R2 := B1) z.z2).mono fun e w' ⟨e1, O', k1, k2, u⟩ => ⟨e1, O', (adoptH (hsOf B2 Q2) b.X).1.Q, ?_⟩
  have hlow : Below w0.heap.size w w' := u.below (fun k hk => z.z2.lo k (.inl hk)) z.below.size
  have hperm : (B1 ++ ([] ++ (B2 ++ [b]))).Perm (B1 ++ ([b] ++ B2)) := List.Perm.append_left B1 (show (B2 ++ [b]).Perm ([b] ++ B2) from List.perm_append_comm)
  have k1' : Hz C K.Hp w' o O' 9 p g q own L A (B2 ++ [b]) ([] ++ B1) (adoptH (hsOf B2 Q2) b.X).1.Q := k1
  refine ⟨⟨z.z1.other u (fun k hk e => z.ap k e hk) (k1'.env.perm rot) fun k hk => (EO_perm hperm).1 hk, k1', fun k hk hk2 => ?_, fun k hk => ⟨(z.s k hk).1, fun e => ?_, fun e => (z.s k hk).2.2 ((EO_perm hperm).1 e)⟩, z.below.trans hlow, fun k hk => Nat.lt_of_lt_of_le (z.lt k hk) hlow.size⟩, u.mono fun k hk e => (z.s k e).2.1 hk⟩
  · rcases k2 k hk2 with e | e
    · exact z.ap k hk e
    · have := (K.num z.z1.hp).2.1 k hk; omega
  · rcases k2 k e with e | e
    · exact (z.s k hk).2.1 e
    · have := z.lt k hk; omega
theorem two_there (z : Two C K h o p g q O1 O2 own L A B1 M B2 Q1 Q2 S w) (hb : b ∈ B2) :
    Calls Tryz.prog 32 #[.pointer (some ⟨o, 0, none⟩), .pointer (some ⟨b.sp, 0, none⟩)] w fun e w' => e = .returned (.int .i64 6) ∧ Below w.heap.size w w' := K.adopt_there w z.below z.z2 hb
theorem two_owner (z : Two C K h o p g q O1 O2 own L A B1 M B2 Q1 Q2 S w) (hb : b ∈ B2) :
    Calls Tryz.prog 33 #[.pointer (some ⟨b.sp, 0, none⟩)] w fun e w' => e = .returned (.pointer (some b.c)) ∧ Below w.heap.size w w' :=
  C.owner w z.below (z.z2.env.shop.sg b (List.mem_append_left _ hb))
/-- Its owner's cell was asked. -/
abbrev askO (b : SB) : SB := { b with X := { b.X with oa := b.X.oa + 1 } }
theorem good_ask {Y : List SG} {X : SG} {Q : Nat → QR} (g : GoodH ⟨Y ++ [X], Q⟩) : GoodH ⟨Y ++ [{ X with oa := X.oa + 1 }], Q⟩ := by
  have hX : X ∈ Y ++ [X] := List.mem_append_right _ (List.mem_singleton.2 rfl)
  have gX := g.seg X hX
  refine ⟨fun Z hZ => ?_, ?_, g.q, fun i k => (g.mem i k).trans ?_⟩
  · rcases List.mem_append.1 hZ with h | h
    · exact g.seg Z (List.mem_append_left _ h)
    · rw [List.mem_singleton.1 h]
      exact ⟨⟨gX.g.len, gX.g.mark, gX.g.rise, gX.g.fit, gX.g.run, gX.g.cls, gX.g.sum⟩, gX.pl, gX.pps⟩
  · have := g.pls
    simpa using this
  · constructor
    · rintro ⟨Z, hZ, o, ho, e1, e2⟩
      rcases List.mem_append.1 hZ with h | h
      · exact ⟨Z, List.mem_append_left _ h, o, ho, e1, e2⟩
      · have e := List.mem_singleton.1 h
        subst e
        exact ⟨_, List.mem_append_right _ (List.mem_singleton.2 rfl), o, ho, e1, e2⟩
    · rintro ⟨Z, hZ, o, ho, e1, e2⟩
      rcases List.mem_append.1 hZ with h | h
      · exact ⟨Z, List.mem_append_left _ h, o, ho, e1, e2⟩
      · have e := List.mem_singleton.1 h
        subst e
        exact ⟨X, hX, o, ho, e1, e2⟩
theorem EO_ask {k : Nat} : EO p g own (B1 ++ (B ++ [askO b])) k ↔ EO p g own (B1 ++ (B ++ [b])) k := by
  unfold EO
  refine or_congr Iff.rfl (or_congr Iff.rfl (or_congr Iff.rfl ?_))
  simp only [List.mem_append, List.mem_singleton]
  constructor
  · rintro ⟨a, ha | ha | rfl, hk⟩
    · exact ⟨a, .inl ha, hk⟩
    · exact ⟨a, .inr (.inl ha), hk⟩
    · exact ⟨b, .inr (.inr rfl), hk⟩
  · rintro ⟨a, ha | ha | rfl, hk⟩
    · exact ⟨a, .inl ha, hk⟩
    · exact ⟨a, .inr (.inl ha), hk⟩
    · exact ⟨_, .inr (.inr rfl), hk⟩
theorem two_oload (z : Two C K h o p g q O1 O2 own L A B1 [] (B2 ++ [b]) Q1 Q2 S w) (ht : b.X.ot ≤ 1000000000) :
    Calls Tryz.prog 25 #[.pointer (some b.c)] w fun e w' => e = .returned (.tuple #[.int .u64 (b.X.ow : Int), .int .u64 (b.X.ot : Int)]) ∧ Two C K h o p g q O1 O2 own L A B1 [] (B2 ++ [askO b]) Q1 Q2 S w' ∧ Still S w w' := by
  have hbm : b ∈ B1 ++ ([] ++ (B2 ++ [b])) := by simp
  have hsg := z.z1.env.shop.sg b hbm
  refine (C.oload w z.below hsg ht).mono fun e w' ⟨e1, k1, u⟩ => ⟨e1, ?_⟩
  have hE : ∀ k, b.I k → EO p g own (B1 ++ ([] ++ (B2 ++ [b]))) k := fun k hk => .inr (.inr (.inr ⟨b, hbm, .inl hk⟩))
  have env1 : Env C w' p g q own L A (B1 ++ ([] ++ (B2 ++ [askO b]))) := by
    have e0 : B1 ++ ([] ++ (B2 ++ [b])) = (B1 ++ B2) ++ b :: [] := by simp
    have e2 : B1 ++ ([] ++ (B2 ++ [askO b])) = (B1 ++ B2) ++ askO b :: [] := by simp
    have ee := z.z1.env
    rw [e0] at ee
    rw [e2]
    exact ee.turn (b' := askO b) k1 rfl u (fun x hx => .inl (.inl hx)) (Agree.refl L []) (fun y hy => by cases hy) fun x hx => .inl hx
  have hlow : Below w0.heap.size w w' := u.below (fun k hk => z.z1.lo k (.inr (hE k hk))) z.below.size
  have hrot : ∀ k, EO p g own ((B2 ++ [askO b]) ++ ([] ++ B1)) k → EO p g own ((B2 ++ [b]) ++ ([] ++ B1)) k := fun k e => by
    have e1 := (EO_perm (rot (B1 := B1) (M := []) (B2 := B2 ++ [askO b])) (p := p) (g := g) (own := own) (k := k)).2 e
    have e2 : EO p g own (B1 ++ ([] ++ (B2 ++ [b]))) k := EO_ask.1 e1
    exact (EO_perm rot).1 e2
  refine ⟨⟨z.z1.other u (fun k hk e => z.z1.ap k e (hE k hk)) env1 fun k hk => EO_ask.1 hk, ⟨?_, env1.perm rot, ?_, fun k hk e => ?_, fun k hk => z.z2.lo k (hk.imp (fun x => x) fun e => ?_)⟩, z.ap, fun k hk => ⟨(z.s k hk).1, (z.s k hk).2.1, fun e => (z.s k hk).2.2 (EO_ask.1 e)⟩, z.below.trans hlow, fun k hk => Nat.lt_of_lt_of_le (z.lt k hk) hlow.size⟩, u.mono fun k hk e => (z.s k e).2.2 (hE k hk)⟩
  · refine K.skel (K.upd z.z2.hp u fun k hk e => z.z2.ap k e ((EO_perm rot).1 (hE k hk))) ?_
    simp [sgsOf, skS]
  · have gg := z.z2.good
    unfold hsOf at gg ⊢
    rw [List.map_append] at gg ⊢
    exact good_ask gg
  · exact z.z2.ap k hk (hrot k e)
  · exact hrot k e
end
end Go.Proofs.YtfdnmoedejejlaaGreatDoor
